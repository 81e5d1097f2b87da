/- RefsEnd of layer 12 (refs), given what the program's Link is to do. -/
import Derived.Test.YticpgjhckjhfeaaDoorEe
namespace Go.Proofs.YticpgjhckjhfeaaDoor
open Go.RowKit Js Pt

theorem Cm.link_ok {l os : List Cm.Node} (h : Cm.link l = .ok os) : Cm.linkNodes l l = .ok os ∧ ∀ q, q < os.length → ¬ Cm.Leads os q q := by
  unfold Cm.link at h
  cases h1 : Cm.linkNodes l l with
  | bad c p => rw [h1] at h; cases h
  | ok o =>
    rw [h1] at h
    simp only at h
    cases h2 : Cm.ringFrom o 0 o.length with
    | some j => rw [h2] at h; simp only at h; cases h
    | none =>
      rw [h2] at h
      simp only at h
      injection h with h
      subst h
      exact ⟨rfl, fun q hq => Cm.ring_none h2 q (Nat.zero_le _) (by omega)⟩
/-- A linked node beside the one that it was made of. -/
theorem Cm.linked_at {l os : List Cm.Node} (h : Cm.linkNodes l l = .ok os) {i : Nat} {N : Cm.Node} (hN : l[i]? = some N) : ∃ ks, os[i]? = some { N with keys := ks } ∧ ks.length = N.keys.length ∧ ∀ (k : Nat) K, N.keys[k]? = some K → ∃ K', ks[k]? = some K' ∧ Cm.Linked l.length K K' := by
  obtain ⟨ks, h1, h2⟩ := (Cm.linkNodes_ok h).2 i N hN
  exact ⟨ks, h1, (Cm.linkKeys_ok h2).1, (Cm.linkKeys_ok h2).2⟩

set_option linter.unusedVariables false in
set_option linter.unusedSimpArgs false in
set_option maxRecDepth 100000 in
set_option maxHeartbeats 20000000 in
theorem refsEnd_any {G : World → Prop} (hG : Stays G) (hL : LinkT G) (s : ByteArray) (w : World) (hg : G w) (hs : s.size ≤ 1000000000000000000) :
    Calls Tryd.prog 4 #[.string s] w fun e w' => e = .returned (.bool true) ∧ Below w.heap.size w w' := by
  have HU := Lib.hid (up12_any hG hL w hg)
  have HG := Lib.hid (fun (W : World) (h : Below w.heap.size w W) => hG _ _ hg h)
  have HL := Lib.hid hL
  clear hG hL hg
  go_enter Tryd.func4, Tryd.ntmps4
  go_wp2_with fail
  refine HU.out.mono ?_
  rintro e w0 ⟨rfl, hb0⟩
  have HB0 := Lib.hid hb0
  have HV := Lib.hid (value_told s hs w0)
  clear hb0 HU
  go_wp2_with fail
  refine HV.out.mono ?_
  rintro e1 w1 ⟨v, x, c, rfl, hx, hb1, hc⟩
  obtain ⟨k_1, k_2, k_3, k_4, k_5, k_6, k_7, k_8, k_9, k_a, k_b, k_c, rfl⟩ := In.cells hx
  have hba := hb1.alloc hb1.size (.cells #[.int .i64 k_1, .bool k_2, .bool k_3, .string ⟨k_4.toArray⟩, .int .i64 k_5, .string ⟨k_6.toArray⟩, .slice k_7 k_8 k_9, .slice k_a k_b k_c] 28)
  have HB := Lib.hid (HB0.out.trans (hba.mono HB0.out.size))
  have HX := Lib.hid (In.keep (le_alloc w1 (.cells #[.int .i64 k_1, .bool k_2, .bool k_3, .string ⟨k_4.toArray⟩, .int .i64 k_5, .string ⟨k_6.toArray⟩, .slice k_7 k_8 k_9, .slice k_a k_b k_c] 28)) _ _ hx)
  have HK := Lib.hid (Blk.new w1 28 #[.int .i64 k_1, .bool k_2, .bool k_3, .string ⟨k_4.toArray⟩, .int .i64 k_5, .string ⟨k_6.toArray⟩, .slice k_7 k_8 k_9, .slice k_a k_b k_c])
  clear hx hb1 hba HV HB0
  go_upto_region 3 with (fail)
  generalize w1.alloc (.cells #[.int .i64 k_1, .bool k_2, .bool k_3, .string ⟨k_4.toArray⟩, .int .i64 k_5, .string ⟨k_6.toArray⟩, .slice k_7 k_8 k_9, .slice k_a k_b k_c] 28) = wa at *
  generalize w1.heap.size = g1 at *
  rcases hc with rfl | ⟨rfl, hf⟩
  · go_wp2_with fail
    go_ret
    exact ⟨rfl, HB.out⟩
  have HW := Lib.hid hf.wide
  have HRC := Lib.hid (refCompile_any v _ wa HX.out HW.out.2.2 HW.out.2.1)
  obtain ⟨a0, a1, a2, a3, a4, a5, a6, a7⟩ := HK.out.eight
  have hkl := HK.out.lt
  clear hf
  go_wp2_with fail
  refine HRC.out.mono ?_
  intro e2 w2 h2
  have HR2 := Lib.hid h2
  obtain ⟨B1, cq1, rfl, hs2, hl2, hm2, hb2⟩ := h2.out
  have HB2 := Lib.hid (HB.out.trans (hb2.mono HB.out.size))
  have HS2 := Lib.hid hs2
  obtain ⟨r, hr⟩ : ∃ r, Cm.compile v = r := ⟨_, rfl⟩
  rw [hr] at HS2 hl2 ⊢
  have HRE := Lib.hid hr
  have HBD := Lib.hid (show ∀ c0 p0, r = .bad c0 p0 → ¬ c0 = 0 from fun c0 p0 e => by
    obtain ⟨_, ⟨a, A, cp, h3, _⟩ | ⟨c1, p1, h3, h4, _⟩⟩ := HR2.out
    · rw [hr, e] at h3; cases h3
    · rw [hr, e] at h3; injection h3 with h3 _; subst h3; exact h4)
  clear hs2 hb2 h2 hr HRC a0 a1 a2 a3 a4 a5 a6 a7 hkl HK HX HB HR2
  cases r with
  | bad c0 p0 =>
    have hc0 : (((Cm.outC (.bad c0 p0) : Nat) : Int) != 0) = true := by rw [bne_iff_ne]; have := HBD.out c0 p0 rfl; show ((c0 : Nat) : Int) ≠ 0; omega
    go_wp2_with fail
    go_ret
    exact ⟨rfl, HB2.out⟩
  | ok a =>
    have HGD := Lib.hid (Cm.good_of HW.out HRE.out)
    have HS3 := Lib.hid (show SlN w2.cell? B1 a from HS2.out)
    rw [show Cm.outL (.ok a) = a from rfl, show Cm.outC (.ok a) = 0 from rfl]
    change a.length ≤ cq1 at hl2
    have HPL := Lib.hid (HL.out a B1 cq1 w2 (HG.out _ HB2.out) HS3.out hl2 hm2 HGD.out)
    obtain ⟨r, hr⟩ : ∃ r, Cm.link a = r := ⟨_, rfl⟩
    rw [hr] at HPL
    have HLK := Lib.hid hr
    clear HS2 HBD HRE hr
    go_wp2_with fail
    refine HPL.out.mono ?_
    rintro e3 w3 ⟨A1, cp1, ev, rfl, hs1, hl1, hm1, he, hok, hb3⟩
    have HS1 := Lib.hid hs1
    have HSL := Lib.hid (HS3.out.keep (le_below hb3))
    have HB3 := Lib.hid (HB2.out.trans (hb3.mono HB2.out.size))
    clear hs1 hb3 HPL HS3 HB2 HG HL
    rcases he with ⟨rfl, _, _⟩ | ⟨h0, b, rfl, _⟩
    rotate_left
    · have hL : (Cm.outL r) = [] := by
        cases r with
        | ok a => exact absurd rfl h0
        | bad c p => rfl
      rw [hL]
      unfold spellV
      go_wp2_with fail
      go_ret
      exact ⟨rfl, HB3.out⟩
    obtain ⟨os, rfl⟩ := hok rfl
    have HSX := Lib.hid (show SlN w3.cell? A1 os from HS1.out)
    rw [show Cm.outL (.ok os) = os from rfl]
    change os.length ≤ cp1 at hl1
    unfold maxLen at hm1 hm2
    have hlk := Cm.link_ok HLK.out
    have HNR := Lib.hid hlk.2
    have hin := Cm.linked_inside HGD.out.inside hlk.1
    have HIN := Lib.hid hin.1
    have HLN := Lib.hid hin.2
    have HLA := Lib.hid (fun i N hN => Cm.linked_at (i := i) (N := N) hlk.1 hN)
    have hfew := HGD.out.few
    have hne : ((os.length : Int) != (a.length : Int)) = false := by rw [HLN.out]; simp
    clear hok HS1 HLK hlk hin
    go_wp2_with fail
    go_loopw [11] (fun i wr => ∃ i' : Nat, i' ≤ os.length ∧ i = .int .i64 i' ∧ Below w3.heap.size w3 wr) (fun i _ => os.length - (intOf i).toNat)
    case atStart => exact ⟨0, by omega, rfl, Below.refl _ _⟩
    case round =>
      obtain ⟨i, hi, rfl, hbw⟩ := hrel
      have HBW := Lib.hid hbw
      clear hbw
      by_cases hlt : i < os.length
      · have hlt' : i < a.length := by have := HLN.out; omega
        have hii : (i : Int) < (os.length : Int) := by omega
        have hii' : (i : Int) < (a.length : Int) := by omega
        obtain ⟨ks, hoi, hkl, hkk⟩ := HLA.out i _ (List.getElem?_eq_getElem hlt')
        obtain ⟨g, o, cs, rfl, ⟨A2, c2, rfl, hk2, hl2', hm2'⟩, hcs⟩ := HSX.out i _ hoi
        obtain ⟨g', o', cs', rfl, ⟨A3, c3, rfl, hk3, hl3, hm3⟩, hcs'⟩ := HSL.out i _ (List.getElem?_eq_getElem hlt')
        have HE0 := Lib.hid (hcs 0 _ rfl)
        have HE3 := Lib.hid (hcs 3 _ rfl)
        have HD0 := Lib.hid (hcs' 0 _ rfl)
        have HD3 := Lib.hid (hcs' 3 _ rfl)
        have HK2 := Lib.hid hk2
        have HK3 := Lib.hid hk3
        have HKK := Lib.hid hkk
        have HIK := Lib.hid (fun K (hK : K ∈ ks) => HIN.out _ (List.mem_of_getElem? hoi) K hK)
        clear hcs hcs' hk2 hk3 hkk hoi
        generalize a[i]'hlt' = N at *
        obtain ⟨at_, all, pass, keys⟩ := N
        simp only at hl2' hl3 hkl HE0 HE3 HD0 HD3 HK2 HK3 HKK HIK
        generalize text at_ = tx at *
        unfold maxLen at hm2' hm3
        have hkn : ((ks.length : Int) != (keys.length : Int)) = false := by rw [hkl]; simp
        have HKL := Lib.hid hkl
        clear hkl
        obtain ⟨wq, hwq⟩ : ∃ W, W = wr := ⟨_, rfl⟩
        subst hwq
        go_upto_region 16 with (fail)
        go_cut [83] from 58 to 82 (fun v83 wc => v83 = .bool false ∧ Below wq.heap.size wq wc)
        case first =>
          have e0 := (le_below HBW.out) _ _ HE0.out
          have e3 := (le_below HBW.out) _ _ HE3.out
          have d0 := (le_below HBW.out) _ _ HD0.out
          have d3 := (le_below HBW.out) _ _ HD3.out
          have hgl := World.block_lt_of_cell? _ _ e0
          have hgl' := World.block_lt_of_cell? _ _ d0
          simp only [Nat.add_zero] at e0 d0
          go_quiet (fail)
          go_wp2_with fail
          go_meet
          case rel => exact ⟨rfl, below_drewN (Below.refl _ _) _⟩
        case rest =>
          obtain ⟨rfl, hbc⟩ := hcut
          have HBC := Lib.hid (HBW.out.trans (hbc.mono HBW.out.size))
          clear hbc
          go_wp2_with fail
          go_loopw [12] (fun k3 wr => ∃ kq : Nat, kq ≤ ks.length ∧ k3 = .int .i64 kq ∧ Below w3.heap.size w3 wr) (fun k3 _ => ks.length - (intOf k3).toNat)
          case atStart => exact ⟨0, by omega, rfl, HBC.out⟩
          case round =>
            obtain ⟨kq, hkq, rfl, hbk⟩ := hrel
            have HBK := Lib.hid hbk
            clear hbk HBC
            have e3 := (le_below HBK.out) _ _ HE3.out
            have hgl := World.block_lt_of_cell? _ _ e3
            by_cases hqk : kq < ks.length
            · have hqk' : kq < keys.length := by have := HKL.out; omega
              have hki : (kq : Int) < (ks.length : Int) := by omega
              have hki' : (kq : Int) < (keys.length : Int) := by omega
              obtain ⟨K', hK', hln⟩ := HKK.out kq _ (List.getElem?_eq_getElem hqk')
              obtain ⟨g3, o3, cs3, rfl, hi3, hc3⟩ := HK2.out kq _ hK'
              obtain ⟨g4, o4, cs4, rfl, hi4, hc4⟩ := HK3.out kq _ (List.getElem?_eq_getElem hqk')
              obtain ⟨j_1, j_2, j_3, j_4, j_5, j_6, j_7, j_8, j_9, j_a, j_b, j_c, A5, c5, rfl, hv5, hk5, hl5, hm5⟩ := hi3.cells
              obtain ⟨i_1, i_2, i_3, i_4, i_5, i_6, i_7, i_8, i_9, i_a, i_b, i_c, A6, c6, rfl, hv6, hk6, hl6, hm6⟩ := hi4.cells
              have HX0 := Lib.hid (hc3 0 _ rfl)
              have HX9 := Lib.hid (hc3 9 _ rfl)
              have HY0 := Lib.hid (hc4 0 _ rfl)
              have HY9 := Lib.hid (hc4 9 _ rfl)
              have HK5 := Lib.hid hk5
              have HIP := Lib.hid (HIK.out K' (List.mem_of_getElem? hK'))
              clear hc3 hc4 hk5 hk6 hv5 hv6 hK'
              generalize keys[kq]'hqk' = K at *
              obtain ⟨nm, kv, kids⟩ := K
              obtain ⟨nm', kv', kids'⟩ := K'
              obtain ⟨hn1, _, hn3⟩ := hln
              simp only at hn1 hn3 hl5 hl6 HX0 HX9 HY0 HY9 HK5 HIP
              subst hn1
              have HN3 := Lib.hid hn3
              unfold maxLen at hm5 hm6
              clear hn3
              have d3 := (le_below HBK.out) _ _ HD3.out
              have hgl' := World.block_lt_of_cell? _ _ d3
              have x0 := (le_below HBK.out) _ _ HX0.out
              have x9 := (le_below HBK.out) _ _ HX9.out
              have y0 := (le_below HBK.out) _ _ HY0.out
              have y9 := (le_below HBK.out) _ _ HY9.out
              have hxl := World.block_lt_of_cell? _ _ x0
              have hyl := World.block_lt_of_cell? _ _ y0
              simp only [Nat.add_zero] at x0 y0
              obtain ⟨wk, hwk⟩ : ∃ W, W = wr := ⟨_, rfl⟩
              subst hwk
              have hkids : kids'.length ≤ 1000000 ∨ True := .inr trivial
              go_upto_if 113 with (fail)
              obtain ⟨isr, hisr⟩ : ∃ b, (nm' == [36, 114, 101, 102]) = b := ⟨_, rfl⟩
              rw [hisr]
              have HISR := Lib.hid hisr
              clear hisr
              go_cut [13] from 113 to 113 (fun v13 wc => v13 = .int .i64 kids'.length ∧ wc = wk)
              case first =>
                go_wp2_with fail
                · have hr : isr = true := by assumption
                  go_meet
                  case rel =>
                    refine ⟨?_, rfl⟩
                    have h1 : nm' = Cm.kRef := by have := HISR.out; rw [hr] at this; exact beq_iff_eq.1 this
                    rcases HN3.out with ⟨_, j, _, h2⟩ | ⟨h2, _⟩
                    · rw [h2]; rfl
                    · exact absurd h1 h2
                · have hr : isr = false := by assumption
                  go_meet
                  case rel =>
                    refine ⟨?_, rfl⟩
                    have h1 : ¬ nm' = Cm.kRef := by have := HISR.out; rw [hr] at this; exact beq_eq_false_iff_ne.1 this
                    rcases HN3.out with ⟨h2, _⟩ | ⟨_, h2⟩
                    · exact absurd h2 h1
                    · rw [h2]
              case rest =>
                obtain ⟨rfl, rfl⟩ := hcut
                obtain ⟨wk, hwk⟩ : ∃ W, W = wc := ⟨_, rfl⟩
                subst hwk
                clear HISR
                go_upto_region 24 with (fail)
                go_cut [146] from 114 to 145 (fun v146 wc => v146 = .bool false ∧ Below wk.heap.size wk wc)
                case first =>
                  go_quiet (fail)
                  go_wp2_with fail
                  go_meet
                  case rel => exact ⟨rfl, below_drewN (Below.refl _ _) _⟩
                case rest =>
                  obtain ⟨rfl, hbc⟩ := hcut
                  have HBC := Lib.hid (HBK.out.trans (hbc.mono HBK.out.size))
                  clear hbc e3 d3 x0 x9 y0 y9 hgl hgl' hxl hyl
                  go_wp2_with fail
                  go_loopw [14] (fun j3 wr => ∃ jq : Nat, jq ≤ kids'.length ∧ j3 = .int .i64 jq ∧ Below w3.heap.size w3 wr) (fun j3 _ => kids'.length - (intOf j3).toNat)
                  case atStart => exact ⟨0, by omega, rfl, HBC.out⟩
                  case round =>
                    obtain ⟨jq, hjq, rfl, hbj⟩ := hrel
                    have HBJ := Lib.hid hbj
                    clear hbj HBC
                    by_cases hjk : jq < kids'.length
                    · have hjj : (jq : Int) < (kids'.length : Int) := by omega
                      obtain ⟨g5, o5, rfl, z0, z1⟩ := HK5.out jq _ (List.getElem?_eq_getElem hjk)
                      have hnl := HIP.out _ (List.getElem_mem hjk)
                      have z1 := (le_below HBJ.out) _ _ z1
                      generalize kids'[jq]'hjk = p at *
                      obtain ⟨pk, pn⟩ := p
                      simp only at hnl z1
                      have e3 := (le_below HBJ.out) _ _ HE3.out
                      have x9 := (le_below HBJ.out) _ _ HX9.out
                      have hgl := World.block_lt_of_cell? _ _ e3
                      have hxl := World.block_lt_of_cell? _ _ x9
                      have hzl := World.block_lt_of_cell? _ _ z1
                      have hp0 : ¬ (pn : Int) < 0 := by omega
                      have hp0' : decide ((pn : Int) < 0) = false := decide_eq_false hp0
                      have hp1 : ¬ (os.length : Int) ≤ (pn : Int) := by omega
                      have hp1' : decide ((os.length : Int) ≤ (pn : Int)) = false := decide_eq_false hp1
                      clear z0
                      go_wp2_with fail
                      go_roundw
                      case rel => exact ⟨jq + 1, by omega, by go_num, HBJ.out⟩
                      case measure => simp [intOf]; omega
                    · obtain rfl : jq = kids'.length := by omega
                      go_wp2_with fail
                      go_roundw
                      case rel => exact ⟨kq + 1, by omega, by go_num, HBJ.out⟩
                      case measure => simp [intOf]; omega
            · obtain rfl : kq = ks.length := by omega
              go_wp2_with fail
              go_roundw
              case rel => exact ⟨i + 1, by omega, by go_num, HBK.out⟩
              case measure => simp [intOf]; omega
      · obtain rfl : i = os.length := by omega
        have HNR2 := Lib.hid HNR.out
        go_wp2_with fail
        go_loopw [15] (fun i wr => ∃ i' : Nat, i' ≤ os.length ∧ i = .int .i64 i' ∧ Below w3.heap.size w3 wr) (fun i _ => os.length - (intOf i).toNat)
        case atStart => exact ⟨0, by omega, rfl, HBW.out⟩
        case round =>
          obtain ⟨i, hi, rfl, hbr⟩ := hrel
          have HBR := Lib.hid hbr
          clear hbr HBW
          by_cases hlt : i < os.length
          · have hii : (i : Int) < (os.length : Int) := by omega
            have HRE := Lib.hid (refReach_any os A1 cp1 i wr (HSX.out.keep (le_below HBR.out)) hl1 (by unfold maxLen; omega) (by have := HLN.out; omega) HIN.out hlt)
            go_wp2_with fail
            refine HRE.out.mono ?_
            rintro e5 w5 ⟨g5, out, rfl, hout, hol, hle, hb5⟩
            have hof : out[i]? = some false := by
              cases hq : out[i]? with
              | none => rw [List.getElem?_eq_none_iff] at hq; omega
              | some b =>
                cases b with
                | false => rfl
                | true => exact absurd ((hle i).1 hq) (HNR2.out i hlt)
            have c5 := hout.cell hof
            have h5l := World.block_lt_of_cell? _ _ c5
            have HB5 := Lib.hid (HBR.out.trans (hb5.mono HBR.out.size))
            clear hle hb5 hout hof HRE
            go_wp2_with fail
            go_roundw
            case rel => exact ⟨i + 1, by omega, by go_num, HB5.out⟩
            case measure => simp [intOf]; omega
          · obtain rfl : i = os.length := by omega
            go_wp2_with fail
            go_ret
            exact ⟨rfl, HB3.out.trans (HBR.out.mono HB3.out.size)⟩

end Go.Proofs.YticpgjhckjhfeaaDoor

