/- The laws of layer 10 (shape): ShapeKids, given what the program's Check, Single and Kids are to do. (By gen_cg.py.) -/
import Derived.Test.YtfolfibembplbaaDoorCf
namespace Go.Proofs.YtfolfibembplbaaDoor
open Go.RowKit Js

theorem nil_of_zero {a : Nat} (h : a = 0) : errV (a : Int) = .nilIface := by rw [h]; rfl
theorem code_of_pos {a : Nat} (h : ¬ a = 0) : errV (a : Int) = .iface 46 (.int .i64 a) := if_neg (by omega)
theorem Sh.shape_same {n1 n2 : List UInt8} (v : Vl) {q : Nat} (h1 : Sh.kw n1 = q) (h2 : Sh.kw n2 = q) (hq : ¬ q = 0) : Sh.shape n1 v = Sh.shape n2 v := by rw [Sh.shape_eq v h1 hq, Sh.shape_eq v h2 hq]
theorem Sh.sch_two {v : Vl} (h : Sh.isSch v = true) : Sh.kindOf v = 1 ∨ Sh.kindOf v = 5 := by
  unfold Sh.isSch at h
  rw [Bool.or_eq_true] at h
  exact h.imp of_decide_eq_true of_decide_eq_true

set_option linter.unusedVariables false in
set_option linter.unusedSimpArgs false in
set_option maxRecDepth 100000 in
set_option maxHeartbeats 2000000 in
theorem shapeKids_any {G : World → Prop} (hG : Stays G) (hC : CheckT G) (hS : SingleT G) (hK : KidsT G) (nm : List UInt8) (s : ByteArray) (w : World) (hg : G w) (hn : nm.length ≤ 1000000000000000000) (hs : s.size ≤ 1000000000000000000) :
    Calls Tryd.prog 3 #[.string ⟨nm.toArray⟩, .string s] w fun e w' => e = .returned (.bool true) ∧ Below w.heap.size w w' := by
  have HU := Lib.hid (up10_any hG hC hS w hg)
  have HG := Lib.hid (fun (W : World) (h : Below w.heap.size w W) => hG _ _ hg h)
  have HC := Lib.hid hC
  have HSI := Lib.hid hS
  have HKI := Lib.hid hK
  clear hG hC hS hK hg
  go_enter Tryd.func3, Tryd.ntmps3
  go_wp2_with fail
  refine HU.out.mono ?_
  rintro e w0 ⟨rfl, hb0⟩
  have HB0 := Lib.hid hb0
  have HV := Lib.hid (value_told s hs w0)
  clear hb0 HU
  go_wp2_with fail
  refine HV.out.mono ?_
  rintro e1 w1 ⟨v, x, c, rfl, hx, hb1, hc⟩
  obtain ⟨k_1, k_2, k_3, k_4, k_5, k_6, k_7, k_8, k_9, k_a, k_b, k_c, rfl⟩ := In.cells hx
  have hba := hb1.alloc hb1.size (.cells #[.int .i64 k_1, .bool k_2, .bool k_3, .string ⟨k_4.toArray⟩, .int .i64 k_5, .string ⟨k_6.toArray⟩, .slice k_7 k_8 k_9, .slice k_a k_b k_c] 28)
  have HB := Lib.hid (HB0.out.trans (hba.mono HB0.out.size))
  have HX := Lib.hid (In.keep (le_alloc w1 (.cells #[.int .i64 k_1, .bool k_2, .bool k_3, .string ⟨k_4.toArray⟩, .int .i64 k_5, .string ⟨k_6.toArray⟩, .slice k_7 k_8 k_9, .slice k_a k_b k_c] 28)) _ _ hx)
  have HK := Lib.hid (Blk.new w1 28 #[.int .i64 k_1, .bool k_2, .bool k_3, .string ⟨k_4.toArray⟩, .int .i64 k_5, .string ⟨k_6.toArray⟩, .slice k_7 k_8 k_9, .slice k_a k_b k_c])
  clear hx hb1 hba HV HB0
  go_upto_region 3 with (fail)
  generalize w1.alloc (.cells #[.int .i64 k_1, .bool k_2, .bool k_3, .string ⟨k_4.toArray⟩, .int .i64 k_5, .string ⟨k_6.toArray⟩, .slice k_7 k_8 k_9, .slice k_a k_b k_c] 28) = wa at *
  generalize w1.heap.size = g1 at *
  rcases hc with rfl | ⟨rfl, hf⟩
  · go_wp2_with fail
    go_ret
    exact ⟨rfl, HB.out⟩
  have hnl : (⟨nm.toArray⟩ : ByteArray).size = nm.length := Lib.size_mk nm
  by_cases h100 : 100 < nm.length
  · have d1 : decide ((100 : Int) < (nm.length : Int)) = true := decide_eq_true (by omega)
    have d2 : decide (100 < nm.length) = true := decide_eq_true h100
    go_wp2_with fail
    go_ret
    exact ⟨rfl, HB.out⟩
  have d1 : decide ((100 : Int) < (nm.length : Int)) = false := decide_eq_false (by omega)
  have d2 : decide (100 < nm.length) = false := decide_eq_false h100
  have HF := Lib.hid hf
  have HN := Lib.hid (show nm.length ≤ 1000 by omega)
  clear hf
  have HSZ := Lib.hid (show v.size ≤ 1000000 by have := HF.out.2.1; omega)
  have HCH := Lib.hid (fun (n2 : List UInt8) (W : World) (hb : Below w.heap.size w W) (hl : n2.length ≤ 1000) (h : v.In W.cell? (.agg #[.int .i64 k_1, .bool k_2, .bool k_3, .string ⟨k_4.toArray⟩, .int .i64 k_5, .string ⟨k_6.toArray⟩, .slice k_7 k_8 k_9, .slice k_a k_b k_c])) => HC.out n2 v _ W (HG.out W hb) hl HF.out h)
  have HAO := Lib.hid (fun (W : World) (hb : Below w.heap.size w W) (h : v.In W.cell? (.agg #[.int .i64 k_1, .bool k_2, .bool k_3, .string ⟨k_4.toArray⟩, .int .i64 k_5, .string ⟨k_6.toArray⟩, .slice k_7 k_8 k_9, .slice k_a k_b k_c])) => HCH.out [97, 108, 108, 79, 102] W hb (by decide) h)
  have HPR := Lib.hid (fun (W : World) (hb : Below w.heap.size w W) (h : v.In W.cell? (.agg #[.int .i64 k_1, .bool k_2, .bool k_3, .string ⟨k_4.toArray⟩, .int .i64 k_5, .string ⟨k_6.toArray⟩, .slice k_7 k_8 k_9, .slice k_a k_b k_c])) => HCH.out [112, 114, 111, 112, 101, 114, 116, 105, 101, 115] W hb (by decide) h)
  have HAN := Lib.hid (fun (W : World) (hb : Below w.heap.size w W) (h : v.In W.cell? (.agg #[.int .i64 k_1, .bool k_2, .bool k_3, .string ⟨k_4.toArray⟩, .int .i64 k_5, .string ⟨k_6.toArray⟩, .slice k_7 k_8 k_9, .slice k_a k_b k_c])) => HCH.out [97, 110, 121, 79, 102] W hb (by decide) h)
  have HOO := Lib.hid (fun (W : World) (hb : Below w.heap.size w W) (h : v.In W.cell? (.agg #[.int .i64 k_1, .bool k_2, .bool k_3, .string ⟨k_4.toArray⟩, .int .i64 k_5, .string ⟨k_6.toArray⟩, .slice k_7 k_8 k_9, .slice k_a k_b k_c])) => HCH.out [111, 110, 101, 79, 102] W hb (by decide) h)
  have HDF := Lib.hid (fun (W : World) (hb : Below w.heap.size w W) (h : v.In W.cell? (.agg #[.int .i64 k_1, .bool k_2, .bool k_3, .string ⟨k_4.toArray⟩, .int .i64 k_5, .string ⟨k_6.toArray⟩, .slice k_7 k_8 k_9, .slice k_a k_b k_c])) => HCH.out [36, 100, 101, 102, 115] W hb (by decide) h)
  have HCO := Lib.hid (fun (W : World) (hb : Below w.heap.size w W) (h : v.In W.cell? (.agg #[.int .i64 k_1, .bool k_2, .bool k_3, .string ⟨k_4.toArray⟩, .int .i64 k_5, .string ⟨k_6.toArray⟩, .slice k_7 k_8 k_9, .slice k_a k_b k_c])) => HCH.out [99, 111, 110, 115, 116] W hb (by decide) h)
  have HZN := Lib.hid (fun (W : World) (hb : Below w.heap.size w W) (h : v.In W.cell? (.agg #[.int .i64 k_1, .bool k_2, .bool k_3, .string ⟨k_4.toArray⟩, .int .i64 k_5, .string ⟨k_6.toArray⟩, .slice k_7 k_8 k_9, .slice k_a k_b k_c])) => HCH.out ([122] ++ nm) W hb (by have := HN.out; rw [List.length_append]; simp; omega) h)
  rw [show Sh.shape ([122] ++ nm) v = 10 from if_pos (Sh.kw_z nm)] at HZN
  rw [show Sh.shape [99, 111, 110, 115, 116] v = 0 from Sh.shape_eq v (show Sh.kw _ = 3 by decide) (by decide)] at HCO
  rw [show Sh.shape [97, 110, 121, 79, 102] v = Sh.shape [97, 108, 108, 79, 102] v from Sh.shape_same v (show _ = 10 by decide) (by decide) (by decide)] at HAN
  rw [show Sh.shape [111, 110, 101, 79, 102] v = Sh.shape [97, 108, 108, 79, 102] v from Sh.shape_same v (show _ = 10 by decide) (by decide) (by decide)] at HOO
  rw [show Sh.shape [36, 100, 101, 102, 115] v = Sh.shape [112, 114, 111, 112, 101, 114, 116, 105, 101, 115] v from Sh.shape_same v (show _ = 9 by decide) (by decide) (by decide)] at HDF
  obtain ⟨a1, ha1⟩ : ∃ a, Sh.shape [97, 108, 108, 79, 102] v = a := ⟨_, rfl⟩
  rw [ha1] at HAO HAN HOO
  obtain ⟨a2, ha2⟩ : ∃ a, Sh.shape [112, 114, 111, 112, 101, 114, 116, 105, 101, 115] v = a := ⟨_, rfl⟩
  rw [ha2] at HPR HDF
  clear ha1 ha2
  have HKP := Lib.hid (fun (h : Sh.shape nm v = 0) (W : World) (hb : Below w.heap.size w W) (hx : v.In W.cell? (.agg #[.int .i64 k_1, .bool k_2, .bool k_3, .string ⟨k_4.toArray⟩, .int .i64 k_5, .string ⟨k_6.toArray⟩, .slice k_7 k_8 k_9, .slice k_a k_b k_c])) => HKI.out nm v _ W (HG.out W hb) HN.out HF.out hx h)
  have HAL := Lib.hid (fun h => Sh.kids_sch (nm := nm) (v := v) h)
  have HON := Lib.hid (fun (h : Sh.single nm = true) => Sh.kids_one (nm := nm) (v := v) (of_decide_eq_true h))
  have HSN := Lib.hid (fun (W : World) (hb : Below w.heap.size w W) => HSI.out nm W (HG.out W hb) HN.out)
  have HCK := Lib.hid (fun (W : World) (hb : Below w.heap.size w W) (h : v.In W.cell? (.agg #[.int .i64 k_1, .bool k_2, .bool k_3, .string ⟨k_4.toArray⟩, .int .i64 k_5, .string ⟨k_6.toArray⟩, .slice k_7 k_8 k_9, .slice k_a k_b k_c])) => HCH.out nm W hb HN.out h)
  have HCAT := Lib.hid (fun W => cat_lists W [122] nm (by have := HN.out; simp only [List.length_singleton]; omega))
  have HDC := Lib.hid (fun (W : World) => code_any 10 W (by omega) (by omega))
  have HTEN := Lib.hid (show errV ((10 : Nat) : Int) = errV 10 from rfl)
  rw [HTEN.out] at HZN
  clear HTEN
  rw [show errV ((0 : Nat) : Int) = .nilIface from rfl] at HCO
  clear HC HKI HSI HCH HF HG hn hs
  obtain ⟨q, hq⟩ : ∃ q, Sh.shape nm v = q := ⟨_, rfl⟩
  rw [hq] at HCK HKP HAL
  clear hq
  by_cases hq0 : q = 0
  · have HKD := Lib.hid (HKP.out hq0)
    have HALL := Lib.hid (HAL.out hq0)
    rw [nil_of_zero hq0] at HCK
    clear hq0 HKP HAL
    obtain ⟨a0, a1, a2, a3, a4, a5, a6, a7⟩ := HK.out.eight
    go_wp2_with fail
    refine (HCK.out _ HB.out HX.out).mono ?_
    rintro e9 w2 ⟨rfl, hb9⟩
    have HB' := Lib.hid (HB.out.trans (hb9.mono HB.out.size))
    have HX' := Lib.hid (In.keep (le_below hb9) _ _ HX.out)
    have HK' := Lib.hid (HK.out.on hb9)
    clear HB HX HK hb9 a0 a1 a2 a3 a4 a5 a6 a7
    have HB := Lib.hid HB'.out
    have HX := Lib.hid HX'.out
    have HK := Lib.hid HK'.out
    clear HB' HX' HK'
    obtain ⟨a0, a1, a2, a3, a4, a5, a6, a7⟩ := HK.out.eight
    go_wp2_with fail
    refine (HKD.out _ HB.out HX.out).mono ?_
    rintro e3 w3 ⟨A1, c1, rfl, hs1, hl1, hm1, hb3⟩
    have HB' := Lib.hid (HB.out.trans (hb3.mono HB.out.size))
    have HX' := Lib.hid (In.keep (le_below hb3) _ _ HX.out)
    have HK' := Lib.hid (HK.out.on hb3)
    clear HB HX HK hb3 a0 a1 a2 a3 a4 a5 a6 a7
    have HB := Lib.hid HB'.out
    have HX := Lib.hid HX'.out
    have HK := Lib.hid HK'.out
    clear HB' HX' HK'
    have HSL := Lib.hid hs1
    unfold maxLen at hm1
    clear hs1 HKD
    obtain ⟨r, hr⟩ : ∃ r, Sh.kids nm v = r := ⟨_, rfl⟩
    rw [hr] at HSL HALL HON hl1 ⊢
    clear hr
    go_wp2_with fail
    go_loopw [9] (fun i wr => ∃ j : Nat, j ≤ r.length ∧ i = .int .i64 j ∧ wr = w3) (fun i _ => r.length - (intOf i).toNat)
    case atStart => exact ⟨0, by omega, rfl, rfl⟩
    case round =>
      obtain ⟨j, hj, rfl, rfl⟩ := hrel
      by_cases hlt : j < r.length
      · obtain ⟨g, o, y, rfl, hy, -, hc⟩ := HSL.out j _ (List.getElem?_eq_getElem hlt)
        have hsc := HALL.out _ (List.getElem_mem hlt)
        obtain ⟨p, hp⟩ : ∃ p, r[j] = p := ⟨_, rfl⟩
        rw [hp] at hy hsc
        clear hp
        obtain ⟨key, ⟨kk, b2, n2, s2, l2, m2⟩⟩ := p
        obtain ⟨A2, e2, B2, d2, rfl, -, -, -, -, -, -⟩ := In.form hy
        have h15 : kk = 1 ∨ kk = 5 := Sh.sch_two hsc
        obtain ⟨e0, e1, e2, e3, e4, e5, e6, e7⟩ := hc.eight
        have hgl := World.block_lt_of_cell? _ _ e0
        have hjj : (j : Int) < (r.length : Int) := by omega
        clear hy hsc hc e1 e2 e3 e4 e5 e6 e7
        rcases h15 with rfl | rfl
        all_goals
          go_wp2_with fail
          go_roundw
          case rel => exact ⟨j + 1, by omega, by go_num, trivial⟩
          case measure => simp [intOf]; omega
      · obtain rfl : j = r.length := by omega
        go_wp2_with fail
        refine (HSN.out _ HB.out).mono ?_
        rintro e5 w5 ⟨rfl, hb5⟩
        have HB' := Lib.hid (HB.out.trans (hb5.mono HB.out.size))
        have HX' := Lib.hid (In.keep (le_below hb5) _ _ HX.out)
        have HK' := Lib.hid (HK.out.on hb5)
        clear HB HX HK hb5 
        have HB := Lib.hid HB'.out
        have HX := Lib.hid HX'.out
        have HK := Lib.hid HK'.out
        clear HB' HX' HK'
        obtain ⟨sb, hsb⟩ : ∃ sb, Sh.single nm = sb := ⟨_, rfl⟩
        rw [hsb] at HON ⊢
        clear hsb
        cases sb with
        | true =>
          have h1l : ((r.length : Int) != 1) = false := by rw [HON.out rfl]; rfl
          have h1e : ((r.length : Int) == 1) = true := by rw [HON.out rfl]; rfl
          by_cases h1 : a1 = 0
          · by_cases h2 : a2 = 0
            · rw [nil_of_zero h1] at HAO
              rw [nil_of_zero h1] at HAN
              rw [nil_of_zero h1] at HOO
              rw [nil_of_zero h2] at HPR
              rw [nil_of_zero h2] at HDF
              clear h1 h2
              obtain ⟨a0, a1, a2, a3, a4, a5, a6, a7⟩ := HK.out.eight
              go_wp2_with fail
              refine (HAO.out _ HB.out HX.out).mono ?_
              rintro e9 x1 ⟨rfl, hb9⟩
              have HB' := Lib.hid (HB.out.trans (hb9.mono HB.out.size))
              have HX' := Lib.hid (In.keep (le_below hb9) _ _ HX.out)
              have HK' := Lib.hid (HK.out.on hb9)
              clear HB HX HK hb9 a0 a1 a2 a3 a4 a5 a6 a7
              have HB := Lib.hid HB'.out
              have HX := Lib.hid HX'.out
              have HK := Lib.hid HK'.out
              clear HB' HX' HK'
              obtain ⟨a0, a1, a2, a3, a4, a5, a6, a7⟩ := HK.out.eight
              go_wp2_with fail
              refine (HPR.out _ HB.out HX.out).mono ?_
              rintro e9 x2 ⟨rfl, hb9⟩
              have HB' := Lib.hid (HB.out.trans (hb9.mono HB.out.size))
              have HX' := Lib.hid (In.keep (le_below hb9) _ _ HX.out)
              have HK' := Lib.hid (HK.out.on hb9)
              clear HB HX HK hb9 a0 a1 a2 a3 a4 a5 a6 a7
              have HB := Lib.hid HB'.out
              have HX := Lib.hid HX'.out
              have HK := Lib.hid HK'.out
              clear HB' HX' HK'
              obtain ⟨a0, a1, a2, a3, a4, a5, a6, a7⟩ := HK.out.eight
              go_wp2_with fail
              refine (HAN.out _ HB.out HX.out).mono ?_
              rintro e9 x3 ⟨rfl, hb9⟩
              have HB' := Lib.hid (HB.out.trans (hb9.mono HB.out.size))
              have HX' := Lib.hid (In.keep (le_below hb9) _ _ HX.out)
              have HK' := Lib.hid (HK.out.on hb9)
              clear HB HX HK hb9 a0 a1 a2 a3 a4 a5 a6 a7
              have HB := Lib.hid HB'.out
              have HX := Lib.hid HX'.out
              have HK := Lib.hid HK'.out
              clear HB' HX' HK'
              obtain ⟨a0, a1, a2, a3, a4, a5, a6, a7⟩ := HK.out.eight
              go_wp2_with fail
              refine (HOO.out _ HB.out HX.out).mono ?_
              rintro e9 x4 ⟨rfl, hb9⟩
              have HB' := Lib.hid (HB.out.trans (hb9.mono HB.out.size))
              have HX' := Lib.hid (In.keep (le_below hb9) _ _ HX.out)
              have HK' := Lib.hid (HK.out.on hb9)
              clear HB HX HK hb9 a0 a1 a2 a3 a4 a5 a6 a7
              have HB := Lib.hid HB'.out
              have HX := Lib.hid HX'.out
              have HK := Lib.hid HK'.out
              clear HB' HX' HK'
              obtain ⟨a0, a1, a2, a3, a4, a5, a6, a7⟩ := HK.out.eight
              go_wp2_with fail
              refine (HDF.out _ HB.out HX.out).mono ?_
              rintro e9 x5 ⟨rfl, hb9⟩
              have HB' := Lib.hid (HB.out.trans (hb9.mono HB.out.size))
              have HX' := Lib.hid (In.keep (le_below hb9) _ _ HX.out)
              have HK' := Lib.hid (HK.out.on hb9)
              clear HB HX HK hb9 a0 a1 a2 a3 a4 a5 a6 a7
              have HB := Lib.hid HB'.out
              have HX := Lib.hid HX'.out
              have HK := Lib.hid HK'.out
              clear HB' HX' HK'
              obtain ⟨a0, a1, a2, a3, a4, a5, a6, a7⟩ := HK.out.eight
              go_wp2_with fail
              refine (HCO.out _ HB.out HX.out).mono ?_
              rintro e9 x6 ⟨rfl, hb9⟩
              have HB' := Lib.hid (HB.out.trans (hb9.mono HB.out.size))
              have HX' := Lib.hid (In.keep (le_below hb9) _ _ HX.out)
              have HK' := Lib.hid (HK.out.on hb9)
              clear HB HX HK hb9 a0 a1 a2 a3 a4 a5 a6 a7
              have HB := Lib.hid HB'.out
              have HX := Lib.hid HX'.out
              have HK := Lib.hid HK'.out
              clear HB' HX' HK'
              have hcat := HCAT.out
              obtain ⟨a0, a1, a2, a3, a4, a5, a6, a7⟩ := HK.out.eight
              go_wp2_with fail
              refine (HZN.out _ HB.out HX.out).mono ?_
              rintro e9 x7 ⟨rfl, hb9⟩
              have HB' := Lib.hid (HB.out.trans (hb9.mono HB.out.size))
              have HX' := Lib.hid (In.keep (le_below hb9) _ _ HX.out)
              have HK' := Lib.hid (HK.out.on hb9)
              clear HB HX HK hb9 a0 a1 a2 a3 a4 a5 a6 a7
              have HB := Lib.hid HB'.out
              have HX := Lib.hid HX'.out
              have HK := Lib.hid HK'.out
              clear HB' HX' HK'
              go_wp2_with fail
              refine (HDC.out _).mono ?_
              rintro e9 x8 ⟨rfl, rfl⟩
              go_wp2_with fail
              go_ret
              exact ⟨rfl, HB.out⟩
            · rw [nil_of_zero h1] at HAO
              rw [nil_of_zero h1] at HAN
              rw [nil_of_zero h1] at HOO
              rw [code_of_pos h2] at HPR
              rw [code_of_pos h2] at HDF
              clear h1 h2
              obtain ⟨a0, a1, a2, a3, a4, a5, a6, a7⟩ := HK.out.eight
              go_wp2_with fail
              refine (HAO.out _ HB.out HX.out).mono ?_
              rintro e9 x1 ⟨rfl, hb9⟩
              have HB' := Lib.hid (HB.out.trans (hb9.mono HB.out.size))
              have HX' := Lib.hid (In.keep (le_below hb9) _ _ HX.out)
              have HK' := Lib.hid (HK.out.on hb9)
              clear HB HX HK hb9 a0 a1 a2 a3 a4 a5 a6 a7
              have HB := Lib.hid HB'.out
              have HX := Lib.hid HX'.out
              have HK := Lib.hid HK'.out
              clear HB' HX' HK'
              obtain ⟨a0, a1, a2, a3, a4, a5, a6, a7⟩ := HK.out.eight
              go_wp2_with fail
              refine (HPR.out _ HB.out HX.out).mono ?_
              rintro e9 x2 ⟨rfl, hb9⟩
              have HB' := Lib.hid (HB.out.trans (hb9.mono HB.out.size))
              have HX' := Lib.hid (In.keep (le_below hb9) _ _ HX.out)
              have HK' := Lib.hid (HK.out.on hb9)
              clear HB HX HK hb9 a0 a1 a2 a3 a4 a5 a6 a7
              have HB := Lib.hid HB'.out
              have HX := Lib.hid HX'.out
              have HK := Lib.hid HK'.out
              clear HB' HX' HK'
              obtain ⟨a0, a1, a2, a3, a4, a5, a6, a7⟩ := HK.out.eight
              go_wp2_with fail
              refine (HAN.out _ HB.out HX.out).mono ?_
              rintro e9 x3 ⟨rfl, hb9⟩
              have HB' := Lib.hid (HB.out.trans (hb9.mono HB.out.size))
              have HX' := Lib.hid (In.keep (le_below hb9) _ _ HX.out)
              have HK' := Lib.hid (HK.out.on hb9)
              clear HB HX HK hb9 a0 a1 a2 a3 a4 a5 a6 a7
              have HB := Lib.hid HB'.out
              have HX := Lib.hid HX'.out
              have HK := Lib.hid HK'.out
              clear HB' HX' HK'
              obtain ⟨a0, a1, a2, a3, a4, a5, a6, a7⟩ := HK.out.eight
              go_wp2_with fail
              refine (HOO.out _ HB.out HX.out).mono ?_
              rintro e9 x4 ⟨rfl, hb9⟩
              have HB' := Lib.hid (HB.out.trans (hb9.mono HB.out.size))
              have HX' := Lib.hid (In.keep (le_below hb9) _ _ HX.out)
              have HK' := Lib.hid (HK.out.on hb9)
              clear HB HX HK hb9 a0 a1 a2 a3 a4 a5 a6 a7
              have HB := Lib.hid HB'.out
              have HX := Lib.hid HX'.out
              have HK := Lib.hid HK'.out
              clear HB' HX' HK'
              obtain ⟨a0, a1, a2, a3, a4, a5, a6, a7⟩ := HK.out.eight
              go_wp2_with fail
              refine (HDF.out _ HB.out HX.out).mono ?_
              rintro e9 x5 ⟨rfl, hb9⟩
              have HB' := Lib.hid (HB.out.trans (hb9.mono HB.out.size))
              have HX' := Lib.hid (In.keep (le_below hb9) _ _ HX.out)
              have HK' := Lib.hid (HK.out.on hb9)
              clear HB HX HK hb9 a0 a1 a2 a3 a4 a5 a6 a7
              have HB := Lib.hid HB'.out
              have HX := Lib.hid HX'.out
              have HK := Lib.hid HK'.out
              clear HB' HX' HK'
              obtain ⟨a0, a1, a2, a3, a4, a5, a6, a7⟩ := HK.out.eight
              go_wp2_with fail
              refine (HCO.out _ HB.out HX.out).mono ?_
              rintro e9 x6 ⟨rfl, hb9⟩
              have HB' := Lib.hid (HB.out.trans (hb9.mono HB.out.size))
              have HX' := Lib.hid (In.keep (le_below hb9) _ _ HX.out)
              have HK' := Lib.hid (HK.out.on hb9)
              clear HB HX HK hb9 a0 a1 a2 a3 a4 a5 a6 a7
              have HB := Lib.hid HB'.out
              have HX := Lib.hid HX'.out
              have HK := Lib.hid HK'.out
              clear HB' HX' HK'
              have hcat := HCAT.out
              obtain ⟨a0, a1, a2, a3, a4, a5, a6, a7⟩ := HK.out.eight
              go_wp2_with fail
              refine (HZN.out _ HB.out HX.out).mono ?_
              rintro e9 x7 ⟨rfl, hb9⟩
              have HB' := Lib.hid (HB.out.trans (hb9.mono HB.out.size))
              have HX' := Lib.hid (In.keep (le_below hb9) _ _ HX.out)
              have HK' := Lib.hid (HK.out.on hb9)
              clear HB HX HK hb9 a0 a1 a2 a3 a4 a5 a6 a7
              have HB := Lib.hid HB'.out
              have HX := Lib.hid HX'.out
              have HK := Lib.hid HK'.out
              clear HB' HX' HK'
              go_wp2_with fail
              refine (HDC.out _).mono ?_
              rintro e9 x8 ⟨rfl, rfl⟩
              go_wp2_with fail
              go_ret
              exact ⟨rfl, HB.out⟩
          · by_cases h2 : a2 = 0
            · rw [code_of_pos h1] at HAO
              rw [code_of_pos h1] at HAN
              rw [code_of_pos h1] at HOO
              rw [nil_of_zero h2] at HPR
              rw [nil_of_zero h2] at HDF
              clear h1 h2
              obtain ⟨a0, a1, a2, a3, a4, a5, a6, a7⟩ := HK.out.eight
              go_wp2_with fail
              refine (HAO.out _ HB.out HX.out).mono ?_
              rintro e9 x1 ⟨rfl, hb9⟩
              have HB' := Lib.hid (HB.out.trans (hb9.mono HB.out.size))
              have HX' := Lib.hid (In.keep (le_below hb9) _ _ HX.out)
              have HK' := Lib.hid (HK.out.on hb9)
              clear HB HX HK hb9 a0 a1 a2 a3 a4 a5 a6 a7
              have HB := Lib.hid HB'.out
              have HX := Lib.hid HX'.out
              have HK := Lib.hid HK'.out
              clear HB' HX' HK'
              obtain ⟨a0, a1, a2, a3, a4, a5, a6, a7⟩ := HK.out.eight
              go_wp2_with fail
              refine (HPR.out _ HB.out HX.out).mono ?_
              rintro e9 x2 ⟨rfl, hb9⟩
              have HB' := Lib.hid (HB.out.trans (hb9.mono HB.out.size))
              have HX' := Lib.hid (In.keep (le_below hb9) _ _ HX.out)
              have HK' := Lib.hid (HK.out.on hb9)
              clear HB HX HK hb9 a0 a1 a2 a3 a4 a5 a6 a7
              have HB := Lib.hid HB'.out
              have HX := Lib.hid HX'.out
              have HK := Lib.hid HK'.out
              clear HB' HX' HK'
              obtain ⟨a0, a1, a2, a3, a4, a5, a6, a7⟩ := HK.out.eight
              go_wp2_with fail
              refine (HAN.out _ HB.out HX.out).mono ?_
              rintro e9 x3 ⟨rfl, hb9⟩
              have HB' := Lib.hid (HB.out.trans (hb9.mono HB.out.size))
              have HX' := Lib.hid (In.keep (le_below hb9) _ _ HX.out)
              have HK' := Lib.hid (HK.out.on hb9)
              clear HB HX HK hb9 a0 a1 a2 a3 a4 a5 a6 a7
              have HB := Lib.hid HB'.out
              have HX := Lib.hid HX'.out
              have HK := Lib.hid HK'.out
              clear HB' HX' HK'
              obtain ⟨a0, a1, a2, a3, a4, a5, a6, a7⟩ := HK.out.eight
              go_wp2_with fail
              refine (HOO.out _ HB.out HX.out).mono ?_
              rintro e9 x4 ⟨rfl, hb9⟩
              have HB' := Lib.hid (HB.out.trans (hb9.mono HB.out.size))
              have HX' := Lib.hid (In.keep (le_below hb9) _ _ HX.out)
              have HK' := Lib.hid (HK.out.on hb9)
              clear HB HX HK hb9 a0 a1 a2 a3 a4 a5 a6 a7
              have HB := Lib.hid HB'.out
              have HX := Lib.hid HX'.out
              have HK := Lib.hid HK'.out
              clear HB' HX' HK'
              obtain ⟨a0, a1, a2, a3, a4, a5, a6, a7⟩ := HK.out.eight
              go_wp2_with fail
              refine (HDF.out _ HB.out HX.out).mono ?_
              rintro e9 x5 ⟨rfl, hb9⟩
              have HB' := Lib.hid (HB.out.trans (hb9.mono HB.out.size))
              have HX' := Lib.hid (In.keep (le_below hb9) _ _ HX.out)
              have HK' := Lib.hid (HK.out.on hb9)
              clear HB HX HK hb9 a0 a1 a2 a3 a4 a5 a6 a7
              have HB := Lib.hid HB'.out
              have HX := Lib.hid HX'.out
              have HK := Lib.hid HK'.out
              clear HB' HX' HK'
              obtain ⟨a0, a1, a2, a3, a4, a5, a6, a7⟩ := HK.out.eight
              go_wp2_with fail
              refine (HCO.out _ HB.out HX.out).mono ?_
              rintro e9 x6 ⟨rfl, hb9⟩
              have HB' := Lib.hid (HB.out.trans (hb9.mono HB.out.size))
              have HX' := Lib.hid (In.keep (le_below hb9) _ _ HX.out)
              have HK' := Lib.hid (HK.out.on hb9)
              clear HB HX HK hb9 a0 a1 a2 a3 a4 a5 a6 a7
              have HB := Lib.hid HB'.out
              have HX := Lib.hid HX'.out
              have HK := Lib.hid HK'.out
              clear HB' HX' HK'
              have hcat := HCAT.out
              obtain ⟨a0, a1, a2, a3, a4, a5, a6, a7⟩ := HK.out.eight
              go_wp2_with fail
              refine (HZN.out _ HB.out HX.out).mono ?_
              rintro e9 x7 ⟨rfl, hb9⟩
              have HB' := Lib.hid (HB.out.trans (hb9.mono HB.out.size))
              have HX' := Lib.hid (In.keep (le_below hb9) _ _ HX.out)
              have HK' := Lib.hid (HK.out.on hb9)
              clear HB HX HK hb9 a0 a1 a2 a3 a4 a5 a6 a7
              have HB := Lib.hid HB'.out
              have HX := Lib.hid HX'.out
              have HK := Lib.hid HK'.out
              clear HB' HX' HK'
              go_wp2_with fail
              refine (HDC.out _).mono ?_
              rintro e9 x8 ⟨rfl, rfl⟩
              go_wp2_with fail
              go_ret
              exact ⟨rfl, HB.out⟩
            · rw [code_of_pos h1] at HAO
              rw [code_of_pos h1] at HAN
              rw [code_of_pos h1] at HOO
              rw [code_of_pos h2] at HPR
              rw [code_of_pos h2] at HDF
              clear h1 h2
              obtain ⟨a0, a1, a2, a3, a4, a5, a6, a7⟩ := HK.out.eight
              go_wp2_with fail
              refine (HAO.out _ HB.out HX.out).mono ?_
              rintro e9 x1 ⟨rfl, hb9⟩
              have HB' := Lib.hid (HB.out.trans (hb9.mono HB.out.size))
              have HX' := Lib.hid (In.keep (le_below hb9) _ _ HX.out)
              have HK' := Lib.hid (HK.out.on hb9)
              clear HB HX HK hb9 a0 a1 a2 a3 a4 a5 a6 a7
              have HB := Lib.hid HB'.out
              have HX := Lib.hid HX'.out
              have HK := Lib.hid HK'.out
              clear HB' HX' HK'
              obtain ⟨a0, a1, a2, a3, a4, a5, a6, a7⟩ := HK.out.eight
              go_wp2_with fail
              refine (HPR.out _ HB.out HX.out).mono ?_
              rintro e9 x2 ⟨rfl, hb9⟩
              have HB' := Lib.hid (HB.out.trans (hb9.mono HB.out.size))
              have HX' := Lib.hid (In.keep (le_below hb9) _ _ HX.out)
              have HK' := Lib.hid (HK.out.on hb9)
              clear HB HX HK hb9 a0 a1 a2 a3 a4 a5 a6 a7
              have HB := Lib.hid HB'.out
              have HX := Lib.hid HX'.out
              have HK := Lib.hid HK'.out
              clear HB' HX' HK'
              obtain ⟨a0, a1, a2, a3, a4, a5, a6, a7⟩ := HK.out.eight
              go_wp2_with fail
              refine (HAN.out _ HB.out HX.out).mono ?_
              rintro e9 x3 ⟨rfl, hb9⟩
              have HB' := Lib.hid (HB.out.trans (hb9.mono HB.out.size))
              have HX' := Lib.hid (In.keep (le_below hb9) _ _ HX.out)
              have HK' := Lib.hid (HK.out.on hb9)
              clear HB HX HK hb9 a0 a1 a2 a3 a4 a5 a6 a7
              have HB := Lib.hid HB'.out
              have HX := Lib.hid HX'.out
              have HK := Lib.hid HK'.out
              clear HB' HX' HK'
              obtain ⟨a0, a1, a2, a3, a4, a5, a6, a7⟩ := HK.out.eight
              go_wp2_with fail
              refine (HOO.out _ HB.out HX.out).mono ?_
              rintro e9 x4 ⟨rfl, hb9⟩
              have HB' := Lib.hid (HB.out.trans (hb9.mono HB.out.size))
              have HX' := Lib.hid (In.keep (le_below hb9) _ _ HX.out)
              have HK' := Lib.hid (HK.out.on hb9)
              clear HB HX HK hb9 a0 a1 a2 a3 a4 a5 a6 a7
              have HB := Lib.hid HB'.out
              have HX := Lib.hid HX'.out
              have HK := Lib.hid HK'.out
              clear HB' HX' HK'
              obtain ⟨a0, a1, a2, a3, a4, a5, a6, a7⟩ := HK.out.eight
              go_wp2_with fail
              refine (HDF.out _ HB.out HX.out).mono ?_
              rintro e9 x5 ⟨rfl, hb9⟩
              have HB' := Lib.hid (HB.out.trans (hb9.mono HB.out.size))
              have HX' := Lib.hid (In.keep (le_below hb9) _ _ HX.out)
              have HK' := Lib.hid (HK.out.on hb9)
              clear HB HX HK hb9 a0 a1 a2 a3 a4 a5 a6 a7
              have HB := Lib.hid HB'.out
              have HX := Lib.hid HX'.out
              have HK := Lib.hid HK'.out
              clear HB' HX' HK'
              obtain ⟨a0, a1, a2, a3, a4, a5, a6, a7⟩ := HK.out.eight
              go_wp2_with fail
              refine (HCO.out _ HB.out HX.out).mono ?_
              rintro e9 x6 ⟨rfl, hb9⟩
              have HB' := Lib.hid (HB.out.trans (hb9.mono HB.out.size))
              have HX' := Lib.hid (In.keep (le_below hb9) _ _ HX.out)
              have HK' := Lib.hid (HK.out.on hb9)
              clear HB HX HK hb9 a0 a1 a2 a3 a4 a5 a6 a7
              have HB := Lib.hid HB'.out
              have HX := Lib.hid HX'.out
              have HK := Lib.hid HK'.out
              clear HB' HX' HK'
              have hcat := HCAT.out
              obtain ⟨a0, a1, a2, a3, a4, a5, a6, a7⟩ := HK.out.eight
              go_wp2_with fail
              refine (HZN.out _ HB.out HX.out).mono ?_
              rintro e9 x7 ⟨rfl, hb9⟩
              have HB' := Lib.hid (HB.out.trans (hb9.mono HB.out.size))
              have HX' := Lib.hid (In.keep (le_below hb9) _ _ HX.out)
              have HK' := Lib.hid (HK.out.on hb9)
              clear HB HX HK hb9 a0 a1 a2 a3 a4 a5 a6 a7
              have HB := Lib.hid HB'.out
              have HX := Lib.hid HX'.out
              have HK := Lib.hid HK'.out
              clear HB' HX' HK'
              go_wp2_with fail
              refine (HDC.out _).mono ?_
              rintro e9 x8 ⟨rfl, rfl⟩
              go_wp2_with fail
              go_ret
              exact ⟨rfl, HB.out⟩
        | false =>
          by_cases h1 : a1 = 0
          · by_cases h2 : a2 = 0
            · rw [nil_of_zero h1] at HAO
              rw [nil_of_zero h1] at HAN
              rw [nil_of_zero h1] at HOO
              rw [nil_of_zero h2] at HPR
              rw [nil_of_zero h2] at HDF
              clear h1 h2
              obtain ⟨a0, a1, a2, a3, a4, a5, a6, a7⟩ := HK.out.eight
              go_wp2_with fail
              refine (HAO.out _ HB.out HX.out).mono ?_
              rintro e9 x1 ⟨rfl, hb9⟩
              have HB' := Lib.hid (HB.out.trans (hb9.mono HB.out.size))
              have HX' := Lib.hid (In.keep (le_below hb9) _ _ HX.out)
              have HK' := Lib.hid (HK.out.on hb9)
              clear HB HX HK hb9 a0 a1 a2 a3 a4 a5 a6 a7
              have HB := Lib.hid HB'.out
              have HX := Lib.hid HX'.out
              have HK := Lib.hid HK'.out
              clear HB' HX' HK'
              obtain ⟨a0, a1, a2, a3, a4, a5, a6, a7⟩ := HK.out.eight
              go_wp2_with fail
              refine (HPR.out _ HB.out HX.out).mono ?_
              rintro e9 x2 ⟨rfl, hb9⟩
              have HB' := Lib.hid (HB.out.trans (hb9.mono HB.out.size))
              have HX' := Lib.hid (In.keep (le_below hb9) _ _ HX.out)
              have HK' := Lib.hid (HK.out.on hb9)
              clear HB HX HK hb9 a0 a1 a2 a3 a4 a5 a6 a7
              have HB := Lib.hid HB'.out
              have HX := Lib.hid HX'.out
              have HK := Lib.hid HK'.out
              clear HB' HX' HK'
              obtain ⟨a0, a1, a2, a3, a4, a5, a6, a7⟩ := HK.out.eight
              go_wp2_with fail
              refine (HAN.out _ HB.out HX.out).mono ?_
              rintro e9 x3 ⟨rfl, hb9⟩
              have HB' := Lib.hid (HB.out.trans (hb9.mono HB.out.size))
              have HX' := Lib.hid (In.keep (le_below hb9) _ _ HX.out)
              have HK' := Lib.hid (HK.out.on hb9)
              clear HB HX HK hb9 a0 a1 a2 a3 a4 a5 a6 a7
              have HB := Lib.hid HB'.out
              have HX := Lib.hid HX'.out
              have HK := Lib.hid HK'.out
              clear HB' HX' HK'
              obtain ⟨a0, a1, a2, a3, a4, a5, a6, a7⟩ := HK.out.eight
              go_wp2_with fail
              refine (HOO.out _ HB.out HX.out).mono ?_
              rintro e9 x4 ⟨rfl, hb9⟩
              have HB' := Lib.hid (HB.out.trans (hb9.mono HB.out.size))
              have HX' := Lib.hid (In.keep (le_below hb9) _ _ HX.out)
              have HK' := Lib.hid (HK.out.on hb9)
              clear HB HX HK hb9 a0 a1 a2 a3 a4 a5 a6 a7
              have HB := Lib.hid HB'.out
              have HX := Lib.hid HX'.out
              have HK := Lib.hid HK'.out
              clear HB' HX' HK'
              obtain ⟨a0, a1, a2, a3, a4, a5, a6, a7⟩ := HK.out.eight
              go_wp2_with fail
              refine (HDF.out _ HB.out HX.out).mono ?_
              rintro e9 x5 ⟨rfl, hb9⟩
              have HB' := Lib.hid (HB.out.trans (hb9.mono HB.out.size))
              have HX' := Lib.hid (In.keep (le_below hb9) _ _ HX.out)
              have HK' := Lib.hid (HK.out.on hb9)
              clear HB HX HK hb9 a0 a1 a2 a3 a4 a5 a6 a7
              have HB := Lib.hid HB'.out
              have HX := Lib.hid HX'.out
              have HK := Lib.hid HK'.out
              clear HB' HX' HK'
              obtain ⟨a0, a1, a2, a3, a4, a5, a6, a7⟩ := HK.out.eight
              go_wp2_with fail
              refine (HCO.out _ HB.out HX.out).mono ?_
              rintro e9 x6 ⟨rfl, hb9⟩
              have HB' := Lib.hid (HB.out.trans (hb9.mono HB.out.size))
              have HX' := Lib.hid (In.keep (le_below hb9) _ _ HX.out)
              have HK' := Lib.hid (HK.out.on hb9)
              clear HB HX HK hb9 a0 a1 a2 a3 a4 a5 a6 a7
              have HB := Lib.hid HB'.out
              have HX := Lib.hid HX'.out
              have HK := Lib.hid HK'.out
              clear HB' HX' HK'
              have hcat := HCAT.out
              obtain ⟨a0, a1, a2, a3, a4, a5, a6, a7⟩ := HK.out.eight
              go_wp2_with fail
              refine (HZN.out _ HB.out HX.out).mono ?_
              rintro e9 x7 ⟨rfl, hb9⟩
              have HB' := Lib.hid (HB.out.trans (hb9.mono HB.out.size))
              have HX' := Lib.hid (In.keep (le_below hb9) _ _ HX.out)
              have HK' := Lib.hid (HK.out.on hb9)
              clear HB HX HK hb9 a0 a1 a2 a3 a4 a5 a6 a7
              have HB := Lib.hid HB'.out
              have HX := Lib.hid HX'.out
              have HK := Lib.hid HK'.out
              clear HB' HX' HK'
              go_wp2_with fail
              refine (HDC.out _).mono ?_
              rintro e9 x8 ⟨rfl, rfl⟩
              go_wp2_with fail
              go_ret
              exact ⟨rfl, HB.out⟩
            · rw [nil_of_zero h1] at HAO
              rw [nil_of_zero h1] at HAN
              rw [nil_of_zero h1] at HOO
              rw [code_of_pos h2] at HPR
              rw [code_of_pos h2] at HDF
              clear h1 h2
              obtain ⟨a0, a1, a2, a3, a4, a5, a6, a7⟩ := HK.out.eight
              go_wp2_with fail
              refine (HAO.out _ HB.out HX.out).mono ?_
              rintro e9 x1 ⟨rfl, hb9⟩
              have HB' := Lib.hid (HB.out.trans (hb9.mono HB.out.size))
              have HX' := Lib.hid (In.keep (le_below hb9) _ _ HX.out)
              have HK' := Lib.hid (HK.out.on hb9)
              clear HB HX HK hb9 a0 a1 a2 a3 a4 a5 a6 a7
              have HB := Lib.hid HB'.out
              have HX := Lib.hid HX'.out
              have HK := Lib.hid HK'.out
              clear HB' HX' HK'
              obtain ⟨a0, a1, a2, a3, a4, a5, a6, a7⟩ := HK.out.eight
              go_wp2_with fail
              refine (HPR.out _ HB.out HX.out).mono ?_
              rintro e9 x2 ⟨rfl, hb9⟩
              have HB' := Lib.hid (HB.out.trans (hb9.mono HB.out.size))
              have HX' := Lib.hid (In.keep (le_below hb9) _ _ HX.out)
              have HK' := Lib.hid (HK.out.on hb9)
              clear HB HX HK hb9 a0 a1 a2 a3 a4 a5 a6 a7
              have HB := Lib.hid HB'.out
              have HX := Lib.hid HX'.out
              have HK := Lib.hid HK'.out
              clear HB' HX' HK'
              obtain ⟨a0, a1, a2, a3, a4, a5, a6, a7⟩ := HK.out.eight
              go_wp2_with fail
              refine (HAN.out _ HB.out HX.out).mono ?_
              rintro e9 x3 ⟨rfl, hb9⟩
              have HB' := Lib.hid (HB.out.trans (hb9.mono HB.out.size))
              have HX' := Lib.hid (In.keep (le_below hb9) _ _ HX.out)
              have HK' := Lib.hid (HK.out.on hb9)
              clear HB HX HK hb9 a0 a1 a2 a3 a4 a5 a6 a7
              have HB := Lib.hid HB'.out
              have HX := Lib.hid HX'.out
              have HK := Lib.hid HK'.out
              clear HB' HX' HK'
              obtain ⟨a0, a1, a2, a3, a4, a5, a6, a7⟩ := HK.out.eight
              go_wp2_with fail
              refine (HOO.out _ HB.out HX.out).mono ?_
              rintro e9 x4 ⟨rfl, hb9⟩
              have HB' := Lib.hid (HB.out.trans (hb9.mono HB.out.size))
              have HX' := Lib.hid (In.keep (le_below hb9) _ _ HX.out)
              have HK' := Lib.hid (HK.out.on hb9)
              clear HB HX HK hb9 a0 a1 a2 a3 a4 a5 a6 a7
              have HB := Lib.hid HB'.out
              have HX := Lib.hid HX'.out
              have HK := Lib.hid HK'.out
              clear HB' HX' HK'
              obtain ⟨a0, a1, a2, a3, a4, a5, a6, a7⟩ := HK.out.eight
              go_wp2_with fail
              refine (HDF.out _ HB.out HX.out).mono ?_
              rintro e9 x5 ⟨rfl, hb9⟩
              have HB' := Lib.hid (HB.out.trans (hb9.mono HB.out.size))
              have HX' := Lib.hid (In.keep (le_below hb9) _ _ HX.out)
              have HK' := Lib.hid (HK.out.on hb9)
              clear HB HX HK hb9 a0 a1 a2 a3 a4 a5 a6 a7
              have HB := Lib.hid HB'.out
              have HX := Lib.hid HX'.out
              have HK := Lib.hid HK'.out
              clear HB' HX' HK'
              obtain ⟨a0, a1, a2, a3, a4, a5, a6, a7⟩ := HK.out.eight
              go_wp2_with fail
              refine (HCO.out _ HB.out HX.out).mono ?_
              rintro e9 x6 ⟨rfl, hb9⟩
              have HB' := Lib.hid (HB.out.trans (hb9.mono HB.out.size))
              have HX' := Lib.hid (In.keep (le_below hb9) _ _ HX.out)
              have HK' := Lib.hid (HK.out.on hb9)
              clear HB HX HK hb9 a0 a1 a2 a3 a4 a5 a6 a7
              have HB := Lib.hid HB'.out
              have HX := Lib.hid HX'.out
              have HK := Lib.hid HK'.out
              clear HB' HX' HK'
              have hcat := HCAT.out
              obtain ⟨a0, a1, a2, a3, a4, a5, a6, a7⟩ := HK.out.eight
              go_wp2_with fail
              refine (HZN.out _ HB.out HX.out).mono ?_
              rintro e9 x7 ⟨rfl, hb9⟩
              have HB' := Lib.hid (HB.out.trans (hb9.mono HB.out.size))
              have HX' := Lib.hid (In.keep (le_below hb9) _ _ HX.out)
              have HK' := Lib.hid (HK.out.on hb9)
              clear HB HX HK hb9 a0 a1 a2 a3 a4 a5 a6 a7
              have HB := Lib.hid HB'.out
              have HX := Lib.hid HX'.out
              have HK := Lib.hid HK'.out
              clear HB' HX' HK'
              go_wp2_with fail
              refine (HDC.out _).mono ?_
              rintro e9 x8 ⟨rfl, rfl⟩
              go_wp2_with fail
              go_ret
              exact ⟨rfl, HB.out⟩
          · by_cases h2 : a2 = 0
            · rw [code_of_pos h1] at HAO
              rw [code_of_pos h1] at HAN
              rw [code_of_pos h1] at HOO
              rw [nil_of_zero h2] at HPR
              rw [nil_of_zero h2] at HDF
              clear h1 h2
              obtain ⟨a0, a1, a2, a3, a4, a5, a6, a7⟩ := HK.out.eight
              go_wp2_with fail
              refine (HAO.out _ HB.out HX.out).mono ?_
              rintro e9 x1 ⟨rfl, hb9⟩
              have HB' := Lib.hid (HB.out.trans (hb9.mono HB.out.size))
              have HX' := Lib.hid (In.keep (le_below hb9) _ _ HX.out)
              have HK' := Lib.hid (HK.out.on hb9)
              clear HB HX HK hb9 a0 a1 a2 a3 a4 a5 a6 a7
              have HB := Lib.hid HB'.out
              have HX := Lib.hid HX'.out
              have HK := Lib.hid HK'.out
              clear HB' HX' HK'
              obtain ⟨a0, a1, a2, a3, a4, a5, a6, a7⟩ := HK.out.eight
              go_wp2_with fail
              refine (HPR.out _ HB.out HX.out).mono ?_
              rintro e9 x2 ⟨rfl, hb9⟩
              have HB' := Lib.hid (HB.out.trans (hb9.mono HB.out.size))
              have HX' := Lib.hid (In.keep (le_below hb9) _ _ HX.out)
              have HK' := Lib.hid (HK.out.on hb9)
              clear HB HX HK hb9 a0 a1 a2 a3 a4 a5 a6 a7
              have HB := Lib.hid HB'.out
              have HX := Lib.hid HX'.out
              have HK := Lib.hid HK'.out
              clear HB' HX' HK'
              obtain ⟨a0, a1, a2, a3, a4, a5, a6, a7⟩ := HK.out.eight
              go_wp2_with fail
              refine (HAN.out _ HB.out HX.out).mono ?_
              rintro e9 x3 ⟨rfl, hb9⟩
              have HB' := Lib.hid (HB.out.trans (hb9.mono HB.out.size))
              have HX' := Lib.hid (In.keep (le_below hb9) _ _ HX.out)
              have HK' := Lib.hid (HK.out.on hb9)
              clear HB HX HK hb9 a0 a1 a2 a3 a4 a5 a6 a7
              have HB := Lib.hid HB'.out
              have HX := Lib.hid HX'.out
              have HK := Lib.hid HK'.out
              clear HB' HX' HK'
              obtain ⟨a0, a1, a2, a3, a4, a5, a6, a7⟩ := HK.out.eight
              go_wp2_with fail
              refine (HOO.out _ HB.out HX.out).mono ?_
              rintro e9 x4 ⟨rfl, hb9⟩
              have HB' := Lib.hid (HB.out.trans (hb9.mono HB.out.size))
              have HX' := Lib.hid (In.keep (le_below hb9) _ _ HX.out)
              have HK' := Lib.hid (HK.out.on hb9)
              clear HB HX HK hb9 a0 a1 a2 a3 a4 a5 a6 a7
              have HB := Lib.hid HB'.out
              have HX := Lib.hid HX'.out
              have HK := Lib.hid HK'.out
              clear HB' HX' HK'
              obtain ⟨a0, a1, a2, a3, a4, a5, a6, a7⟩ := HK.out.eight
              go_wp2_with fail
              refine (HDF.out _ HB.out HX.out).mono ?_
              rintro e9 x5 ⟨rfl, hb9⟩
              have HB' := Lib.hid (HB.out.trans (hb9.mono HB.out.size))
              have HX' := Lib.hid (In.keep (le_below hb9) _ _ HX.out)
              have HK' := Lib.hid (HK.out.on hb9)
              clear HB HX HK hb9 a0 a1 a2 a3 a4 a5 a6 a7
              have HB := Lib.hid HB'.out
              have HX := Lib.hid HX'.out
              have HK := Lib.hid HK'.out
              clear HB' HX' HK'
              obtain ⟨a0, a1, a2, a3, a4, a5, a6, a7⟩ := HK.out.eight
              go_wp2_with fail
              refine (HCO.out _ HB.out HX.out).mono ?_
              rintro e9 x6 ⟨rfl, hb9⟩
              have HB' := Lib.hid (HB.out.trans (hb9.mono HB.out.size))
              have HX' := Lib.hid (In.keep (le_below hb9) _ _ HX.out)
              have HK' := Lib.hid (HK.out.on hb9)
              clear HB HX HK hb9 a0 a1 a2 a3 a4 a5 a6 a7
              have HB := Lib.hid HB'.out
              have HX := Lib.hid HX'.out
              have HK := Lib.hid HK'.out
              clear HB' HX' HK'
              have hcat := HCAT.out
              obtain ⟨a0, a1, a2, a3, a4, a5, a6, a7⟩ := HK.out.eight
              go_wp2_with fail
              refine (HZN.out _ HB.out HX.out).mono ?_
              rintro e9 x7 ⟨rfl, hb9⟩
              have HB' := Lib.hid (HB.out.trans (hb9.mono HB.out.size))
              have HX' := Lib.hid (In.keep (le_below hb9) _ _ HX.out)
              have HK' := Lib.hid (HK.out.on hb9)
              clear HB HX HK hb9 a0 a1 a2 a3 a4 a5 a6 a7
              have HB := Lib.hid HB'.out
              have HX := Lib.hid HX'.out
              have HK := Lib.hid HK'.out
              clear HB' HX' HK'
              go_wp2_with fail
              refine (HDC.out _).mono ?_
              rintro e9 x8 ⟨rfl, rfl⟩
              go_wp2_with fail
              go_ret
              exact ⟨rfl, HB.out⟩
            · rw [code_of_pos h1] at HAO
              rw [code_of_pos h1] at HAN
              rw [code_of_pos h1] at HOO
              rw [code_of_pos h2] at HPR
              rw [code_of_pos h2] at HDF
              clear h1 h2
              obtain ⟨a0, a1, a2, a3, a4, a5, a6, a7⟩ := HK.out.eight
              go_wp2_with fail
              refine (HAO.out _ HB.out HX.out).mono ?_
              rintro e9 x1 ⟨rfl, hb9⟩
              have HB' := Lib.hid (HB.out.trans (hb9.mono HB.out.size))
              have HX' := Lib.hid (In.keep (le_below hb9) _ _ HX.out)
              have HK' := Lib.hid (HK.out.on hb9)
              clear HB HX HK hb9 a0 a1 a2 a3 a4 a5 a6 a7
              have HB := Lib.hid HB'.out
              have HX := Lib.hid HX'.out
              have HK := Lib.hid HK'.out
              clear HB' HX' HK'
              obtain ⟨a0, a1, a2, a3, a4, a5, a6, a7⟩ := HK.out.eight
              go_wp2_with fail
              refine (HPR.out _ HB.out HX.out).mono ?_
              rintro e9 x2 ⟨rfl, hb9⟩
              have HB' := Lib.hid (HB.out.trans (hb9.mono HB.out.size))
              have HX' := Lib.hid (In.keep (le_below hb9) _ _ HX.out)
              have HK' := Lib.hid (HK.out.on hb9)
              clear HB HX HK hb9 a0 a1 a2 a3 a4 a5 a6 a7
              have HB := Lib.hid HB'.out
              have HX := Lib.hid HX'.out
              have HK := Lib.hid HK'.out
              clear HB' HX' HK'
              obtain ⟨a0, a1, a2, a3, a4, a5, a6, a7⟩ := HK.out.eight
              go_wp2_with fail
              refine (HAN.out _ HB.out HX.out).mono ?_
              rintro e9 x3 ⟨rfl, hb9⟩
              have HB' := Lib.hid (HB.out.trans (hb9.mono HB.out.size))
              have HX' := Lib.hid (In.keep (le_below hb9) _ _ HX.out)
              have HK' := Lib.hid (HK.out.on hb9)
              clear HB HX HK hb9 a0 a1 a2 a3 a4 a5 a6 a7
              have HB := Lib.hid HB'.out
              have HX := Lib.hid HX'.out
              have HK := Lib.hid HK'.out
              clear HB' HX' HK'
              obtain ⟨a0, a1, a2, a3, a4, a5, a6, a7⟩ := HK.out.eight
              go_wp2_with fail
              refine (HOO.out _ HB.out HX.out).mono ?_
              rintro e9 x4 ⟨rfl, hb9⟩
              have HB' := Lib.hid (HB.out.trans (hb9.mono HB.out.size))
              have HX' := Lib.hid (In.keep (le_below hb9) _ _ HX.out)
              have HK' := Lib.hid (HK.out.on hb9)
              clear HB HX HK hb9 a0 a1 a2 a3 a4 a5 a6 a7
              have HB := Lib.hid HB'.out
              have HX := Lib.hid HX'.out
              have HK := Lib.hid HK'.out
              clear HB' HX' HK'
              obtain ⟨a0, a1, a2, a3, a4, a5, a6, a7⟩ := HK.out.eight
              go_wp2_with fail
              refine (HDF.out _ HB.out HX.out).mono ?_
              rintro e9 x5 ⟨rfl, hb9⟩
              have HB' := Lib.hid (HB.out.trans (hb9.mono HB.out.size))
              have HX' := Lib.hid (In.keep (le_below hb9) _ _ HX.out)
              have HK' := Lib.hid (HK.out.on hb9)
              clear HB HX HK hb9 a0 a1 a2 a3 a4 a5 a6 a7
              have HB := Lib.hid HB'.out
              have HX := Lib.hid HX'.out
              have HK := Lib.hid HK'.out
              clear HB' HX' HK'
              obtain ⟨a0, a1, a2, a3, a4, a5, a6, a7⟩ := HK.out.eight
              go_wp2_with fail
              refine (HCO.out _ HB.out HX.out).mono ?_
              rintro e9 x6 ⟨rfl, hb9⟩
              have HB' := Lib.hid (HB.out.trans (hb9.mono HB.out.size))
              have HX' := Lib.hid (In.keep (le_below hb9) _ _ HX.out)
              have HK' := Lib.hid (HK.out.on hb9)
              clear HB HX HK hb9 a0 a1 a2 a3 a4 a5 a6 a7
              have HB := Lib.hid HB'.out
              have HX := Lib.hid HX'.out
              have HK := Lib.hid HK'.out
              clear HB' HX' HK'
              have hcat := HCAT.out
              obtain ⟨a0, a1, a2, a3, a4, a5, a6, a7⟩ := HK.out.eight
              go_wp2_with fail
              refine (HZN.out _ HB.out HX.out).mono ?_
              rintro e9 x7 ⟨rfl, hb9⟩
              have HB' := Lib.hid (HB.out.trans (hb9.mono HB.out.size))
              have HX' := Lib.hid (In.keep (le_below hb9) _ _ HX.out)
              have HK' := Lib.hid (HK.out.on hb9)
              clear HB HX HK hb9 a0 a1 a2 a3 a4 a5 a6 a7
              have HB := Lib.hid HB'.out
              have HX := Lib.hid HX'.out
              have HK := Lib.hid HK'.out
              clear HB' HX' HK'
              go_wp2_with fail
              refine (HDC.out _).mono ?_
              rintro e9 x8 ⟨rfl, rfl⟩
              go_wp2_with fail
              go_ret
              exact ⟨rfl, HB.out⟩
  · rw [code_of_pos hq0] at HCK
    clear hq0 HKP HAL HON HSN
    obtain ⟨a0, a1, a2, a3, a4, a5, a6, a7⟩ := HK.out.eight
    go_wp2_with fail
    refine (HCK.out _ HB.out HX.out).mono ?_
    rintro e9 w2 ⟨rfl, hb9⟩
    have HB' := Lib.hid (HB.out.trans (hb9.mono HB.out.size))
    have HX' := Lib.hid (In.keep (le_below hb9) _ _ HX.out)
    have HK' := Lib.hid (HK.out.on hb9)
    clear HB HX HK hb9 a0 a1 a2 a3 a4 a5 a6 a7
    have HB := Lib.hid HB'.out
    have HX := Lib.hid HX'.out
    have HK := Lib.hid HK'.out
    clear HB' HX' HK'
    by_cases h1 : a1 = 0
    · by_cases h2 : a2 = 0
      · rw [nil_of_zero h1] at HAO
        rw [nil_of_zero h1] at HAN
        rw [nil_of_zero h1] at HOO
        rw [nil_of_zero h2] at HPR
        rw [nil_of_zero h2] at HDF
        clear h1 h2
        obtain ⟨a0, a1, a2, a3, a4, a5, a6, a7⟩ := HK.out.eight
        go_wp2_with fail
        refine (HAO.out _ HB.out HX.out).mono ?_
        rintro e9 x1 ⟨rfl, hb9⟩
        have HB' := Lib.hid (HB.out.trans (hb9.mono HB.out.size))
        have HX' := Lib.hid (In.keep (le_below hb9) _ _ HX.out)
        have HK' := Lib.hid (HK.out.on hb9)
        clear HB HX HK hb9 a0 a1 a2 a3 a4 a5 a6 a7
        have HB := Lib.hid HB'.out
        have HX := Lib.hid HX'.out
        have HK := Lib.hid HK'.out
        clear HB' HX' HK'
        obtain ⟨a0, a1, a2, a3, a4, a5, a6, a7⟩ := HK.out.eight
        go_wp2_with fail
        refine (HPR.out _ HB.out HX.out).mono ?_
        rintro e9 x2 ⟨rfl, hb9⟩
        have HB' := Lib.hid (HB.out.trans (hb9.mono HB.out.size))
        have HX' := Lib.hid (In.keep (le_below hb9) _ _ HX.out)
        have HK' := Lib.hid (HK.out.on hb9)
        clear HB HX HK hb9 a0 a1 a2 a3 a4 a5 a6 a7
        have HB := Lib.hid HB'.out
        have HX := Lib.hid HX'.out
        have HK := Lib.hid HK'.out
        clear HB' HX' HK'
        obtain ⟨a0, a1, a2, a3, a4, a5, a6, a7⟩ := HK.out.eight
        go_wp2_with fail
        refine (HAN.out _ HB.out HX.out).mono ?_
        rintro e9 x3 ⟨rfl, hb9⟩
        have HB' := Lib.hid (HB.out.trans (hb9.mono HB.out.size))
        have HX' := Lib.hid (In.keep (le_below hb9) _ _ HX.out)
        have HK' := Lib.hid (HK.out.on hb9)
        clear HB HX HK hb9 a0 a1 a2 a3 a4 a5 a6 a7
        have HB := Lib.hid HB'.out
        have HX := Lib.hid HX'.out
        have HK := Lib.hid HK'.out
        clear HB' HX' HK'
        obtain ⟨a0, a1, a2, a3, a4, a5, a6, a7⟩ := HK.out.eight
        go_wp2_with fail
        refine (HOO.out _ HB.out HX.out).mono ?_
        rintro e9 x4 ⟨rfl, hb9⟩
        have HB' := Lib.hid (HB.out.trans (hb9.mono HB.out.size))
        have HX' := Lib.hid (In.keep (le_below hb9) _ _ HX.out)
        have HK' := Lib.hid (HK.out.on hb9)
        clear HB HX HK hb9 a0 a1 a2 a3 a4 a5 a6 a7
        have HB := Lib.hid HB'.out
        have HX := Lib.hid HX'.out
        have HK := Lib.hid HK'.out
        clear HB' HX' HK'
        obtain ⟨a0, a1, a2, a3, a4, a5, a6, a7⟩ := HK.out.eight
        go_wp2_with fail
        refine (HDF.out _ HB.out HX.out).mono ?_
        rintro e9 x5 ⟨rfl, hb9⟩
        have HB' := Lib.hid (HB.out.trans (hb9.mono HB.out.size))
        have HX' := Lib.hid (In.keep (le_below hb9) _ _ HX.out)
        have HK' := Lib.hid (HK.out.on hb9)
        clear HB HX HK hb9 a0 a1 a2 a3 a4 a5 a6 a7
        have HB := Lib.hid HB'.out
        have HX := Lib.hid HX'.out
        have HK := Lib.hid HK'.out
        clear HB' HX' HK'
        obtain ⟨a0, a1, a2, a3, a4, a5, a6, a7⟩ := HK.out.eight
        go_wp2_with fail
        refine (HCO.out _ HB.out HX.out).mono ?_
        rintro e9 x6 ⟨rfl, hb9⟩
        have HB' := Lib.hid (HB.out.trans (hb9.mono HB.out.size))
        have HX' := Lib.hid (In.keep (le_below hb9) _ _ HX.out)
        have HK' := Lib.hid (HK.out.on hb9)
        clear HB HX HK hb9 a0 a1 a2 a3 a4 a5 a6 a7
        have HB := Lib.hid HB'.out
        have HX := Lib.hid HX'.out
        have HK := Lib.hid HK'.out
        clear HB' HX' HK'
        have hcat := HCAT.out
        obtain ⟨a0, a1, a2, a3, a4, a5, a6, a7⟩ := HK.out.eight
        go_wp2_with fail
        refine (HZN.out _ HB.out HX.out).mono ?_
        rintro e9 x7 ⟨rfl, hb9⟩
        have HB' := Lib.hid (HB.out.trans (hb9.mono HB.out.size))
        have HX' := Lib.hid (In.keep (le_below hb9) _ _ HX.out)
        have HK' := Lib.hid (HK.out.on hb9)
        clear HB HX HK hb9 a0 a1 a2 a3 a4 a5 a6 a7
        have HB := Lib.hid HB'.out
        have HX := Lib.hid HX'.out
        have HK := Lib.hid HK'.out
        clear HB' HX' HK'
        go_wp2_with fail
        refine (HDC.out _).mono ?_
        rintro e9 x8 ⟨rfl, rfl⟩
        go_wp2_with fail
        go_ret
        exact ⟨rfl, HB.out⟩
      · rw [nil_of_zero h1] at HAO
        rw [nil_of_zero h1] at HAN
        rw [nil_of_zero h1] at HOO
        rw [code_of_pos h2] at HPR
        rw [code_of_pos h2] at HDF
        clear h1 h2
        obtain ⟨a0, a1, a2, a3, a4, a5, a6, a7⟩ := HK.out.eight
        go_wp2_with fail
        refine (HAO.out _ HB.out HX.out).mono ?_
        rintro e9 x1 ⟨rfl, hb9⟩
        have HB' := Lib.hid (HB.out.trans (hb9.mono HB.out.size))
        have HX' := Lib.hid (In.keep (le_below hb9) _ _ HX.out)
        have HK' := Lib.hid (HK.out.on hb9)
        clear HB HX HK hb9 a0 a1 a2 a3 a4 a5 a6 a7
        have HB := Lib.hid HB'.out
        have HX := Lib.hid HX'.out
        have HK := Lib.hid HK'.out
        clear HB' HX' HK'
        obtain ⟨a0, a1, a2, a3, a4, a5, a6, a7⟩ := HK.out.eight
        go_wp2_with fail
        refine (HPR.out _ HB.out HX.out).mono ?_
        rintro e9 x2 ⟨rfl, hb9⟩
        have HB' := Lib.hid (HB.out.trans (hb9.mono HB.out.size))
        have HX' := Lib.hid (In.keep (le_below hb9) _ _ HX.out)
        have HK' := Lib.hid (HK.out.on hb9)
        clear HB HX HK hb9 a0 a1 a2 a3 a4 a5 a6 a7
        have HB := Lib.hid HB'.out
        have HX := Lib.hid HX'.out
        have HK := Lib.hid HK'.out
        clear HB' HX' HK'
        obtain ⟨a0, a1, a2, a3, a4, a5, a6, a7⟩ := HK.out.eight
        go_wp2_with fail
        refine (HAN.out _ HB.out HX.out).mono ?_
        rintro e9 x3 ⟨rfl, hb9⟩
        have HB' := Lib.hid (HB.out.trans (hb9.mono HB.out.size))
        have HX' := Lib.hid (In.keep (le_below hb9) _ _ HX.out)
        have HK' := Lib.hid (HK.out.on hb9)
        clear HB HX HK hb9 a0 a1 a2 a3 a4 a5 a6 a7
        have HB := Lib.hid HB'.out
        have HX := Lib.hid HX'.out
        have HK := Lib.hid HK'.out
        clear HB' HX' HK'
        obtain ⟨a0, a1, a2, a3, a4, a5, a6, a7⟩ := HK.out.eight
        go_wp2_with fail
        refine (HOO.out _ HB.out HX.out).mono ?_
        rintro e9 x4 ⟨rfl, hb9⟩
        have HB' := Lib.hid (HB.out.trans (hb9.mono HB.out.size))
        have HX' := Lib.hid (In.keep (le_below hb9) _ _ HX.out)
        have HK' := Lib.hid (HK.out.on hb9)
        clear HB HX HK hb9 a0 a1 a2 a3 a4 a5 a6 a7
        have HB := Lib.hid HB'.out
        have HX := Lib.hid HX'.out
        have HK := Lib.hid HK'.out
        clear HB' HX' HK'
        obtain ⟨a0, a1, a2, a3, a4, a5, a6, a7⟩ := HK.out.eight
        go_wp2_with fail
        refine (HDF.out _ HB.out HX.out).mono ?_
        rintro e9 x5 ⟨rfl, hb9⟩
        have HB' := Lib.hid (HB.out.trans (hb9.mono HB.out.size))
        have HX' := Lib.hid (In.keep (le_below hb9) _ _ HX.out)
        have HK' := Lib.hid (HK.out.on hb9)
        clear HB HX HK hb9 a0 a1 a2 a3 a4 a5 a6 a7
        have HB := Lib.hid HB'.out
        have HX := Lib.hid HX'.out
        have HK := Lib.hid HK'.out
        clear HB' HX' HK'
        obtain ⟨a0, a1, a2, a3, a4, a5, a6, a7⟩ := HK.out.eight
        go_wp2_with fail
        refine (HCO.out _ HB.out HX.out).mono ?_
        rintro e9 x6 ⟨rfl, hb9⟩
        have HB' := Lib.hid (HB.out.trans (hb9.mono HB.out.size))
        have HX' := Lib.hid (In.keep (le_below hb9) _ _ HX.out)
        have HK' := Lib.hid (HK.out.on hb9)
        clear HB HX HK hb9 a0 a1 a2 a3 a4 a5 a6 a7
        have HB := Lib.hid HB'.out
        have HX := Lib.hid HX'.out
        have HK := Lib.hid HK'.out
        clear HB' HX' HK'
        have hcat := HCAT.out
        obtain ⟨a0, a1, a2, a3, a4, a5, a6, a7⟩ := HK.out.eight
        go_wp2_with fail
        refine (HZN.out _ HB.out HX.out).mono ?_
        rintro e9 x7 ⟨rfl, hb9⟩
        have HB' := Lib.hid (HB.out.trans (hb9.mono HB.out.size))
        have HX' := Lib.hid (In.keep (le_below hb9) _ _ HX.out)
        have HK' := Lib.hid (HK.out.on hb9)
        clear HB HX HK hb9 a0 a1 a2 a3 a4 a5 a6 a7
        have HB := Lib.hid HB'.out
        have HX := Lib.hid HX'.out
        have HK := Lib.hid HK'.out
        clear HB' HX' HK'
        go_wp2_with fail
        refine (HDC.out _).mono ?_
        rintro e9 x8 ⟨rfl, rfl⟩
        go_wp2_with fail
        go_ret
        exact ⟨rfl, HB.out⟩
    · by_cases h2 : a2 = 0
      · rw [code_of_pos h1] at HAO
        rw [code_of_pos h1] at HAN
        rw [code_of_pos h1] at HOO
        rw [nil_of_zero h2] at HPR
        rw [nil_of_zero h2] at HDF
        clear h1 h2
        obtain ⟨a0, a1, a2, a3, a4, a5, a6, a7⟩ := HK.out.eight
        go_wp2_with fail
        refine (HAO.out _ HB.out HX.out).mono ?_
        rintro e9 x1 ⟨rfl, hb9⟩
        have HB' := Lib.hid (HB.out.trans (hb9.mono HB.out.size))
        have HX' := Lib.hid (In.keep (le_below hb9) _ _ HX.out)
        have HK' := Lib.hid (HK.out.on hb9)
        clear HB HX HK hb9 a0 a1 a2 a3 a4 a5 a6 a7
        have HB := Lib.hid HB'.out
        have HX := Lib.hid HX'.out
        have HK := Lib.hid HK'.out
        clear HB' HX' HK'
        obtain ⟨a0, a1, a2, a3, a4, a5, a6, a7⟩ := HK.out.eight
        go_wp2_with fail
        refine (HPR.out _ HB.out HX.out).mono ?_
        rintro e9 x2 ⟨rfl, hb9⟩
        have HB' := Lib.hid (HB.out.trans (hb9.mono HB.out.size))
        have HX' := Lib.hid (In.keep (le_below hb9) _ _ HX.out)
        have HK' := Lib.hid (HK.out.on hb9)
        clear HB HX HK hb9 a0 a1 a2 a3 a4 a5 a6 a7
        have HB := Lib.hid HB'.out
        have HX := Lib.hid HX'.out
        have HK := Lib.hid HK'.out
        clear HB' HX' HK'
        obtain ⟨a0, a1, a2, a3, a4, a5, a6, a7⟩ := HK.out.eight
        go_wp2_with fail
        refine (HAN.out _ HB.out HX.out).mono ?_
        rintro e9 x3 ⟨rfl, hb9⟩
        have HB' := Lib.hid (HB.out.trans (hb9.mono HB.out.size))
        have HX' := Lib.hid (In.keep (le_below hb9) _ _ HX.out)
        have HK' := Lib.hid (HK.out.on hb9)
        clear HB HX HK hb9 a0 a1 a2 a3 a4 a5 a6 a7
        have HB := Lib.hid HB'.out
        have HX := Lib.hid HX'.out
        have HK := Lib.hid HK'.out
        clear HB' HX' HK'
        obtain ⟨a0, a1, a2, a3, a4, a5, a6, a7⟩ := HK.out.eight
        go_wp2_with fail
        refine (HOO.out _ HB.out HX.out).mono ?_
        rintro e9 x4 ⟨rfl, hb9⟩
        have HB' := Lib.hid (HB.out.trans (hb9.mono HB.out.size))
        have HX' := Lib.hid (In.keep (le_below hb9) _ _ HX.out)
        have HK' := Lib.hid (HK.out.on hb9)
        clear HB HX HK hb9 a0 a1 a2 a3 a4 a5 a6 a7
        have HB := Lib.hid HB'.out
        have HX := Lib.hid HX'.out
        have HK := Lib.hid HK'.out
        clear HB' HX' HK'
        obtain ⟨a0, a1, a2, a3, a4, a5, a6, a7⟩ := HK.out.eight
        go_wp2_with fail
        refine (HDF.out _ HB.out HX.out).mono ?_
        rintro e9 x5 ⟨rfl, hb9⟩
        have HB' := Lib.hid (HB.out.trans (hb9.mono HB.out.size))
        have HX' := Lib.hid (In.keep (le_below hb9) _ _ HX.out)
        have HK' := Lib.hid (HK.out.on hb9)
        clear HB HX HK hb9 a0 a1 a2 a3 a4 a5 a6 a7
        have HB := Lib.hid HB'.out
        have HX := Lib.hid HX'.out
        have HK := Lib.hid HK'.out
        clear HB' HX' HK'
        obtain ⟨a0, a1, a2, a3, a4, a5, a6, a7⟩ := HK.out.eight
        go_wp2_with fail
        refine (HCO.out _ HB.out HX.out).mono ?_
        rintro e9 x6 ⟨rfl, hb9⟩
        have HB' := Lib.hid (HB.out.trans (hb9.mono HB.out.size))
        have HX' := Lib.hid (In.keep (le_below hb9) _ _ HX.out)
        have HK' := Lib.hid (HK.out.on hb9)
        clear HB HX HK hb9 a0 a1 a2 a3 a4 a5 a6 a7
        have HB := Lib.hid HB'.out
        have HX := Lib.hid HX'.out
        have HK := Lib.hid HK'.out
        clear HB' HX' HK'
        have hcat := HCAT.out
        obtain ⟨a0, a1, a2, a3, a4, a5, a6, a7⟩ := HK.out.eight
        go_wp2_with fail
        refine (HZN.out _ HB.out HX.out).mono ?_
        rintro e9 x7 ⟨rfl, hb9⟩
        have HB' := Lib.hid (HB.out.trans (hb9.mono HB.out.size))
        have HX' := Lib.hid (In.keep (le_below hb9) _ _ HX.out)
        have HK' := Lib.hid (HK.out.on hb9)
        clear HB HX HK hb9 a0 a1 a2 a3 a4 a5 a6 a7
        have HB := Lib.hid HB'.out
        have HX := Lib.hid HX'.out
        have HK := Lib.hid HK'.out
        clear HB' HX' HK'
        go_wp2_with fail
        refine (HDC.out _).mono ?_
        rintro e9 x8 ⟨rfl, rfl⟩
        go_wp2_with fail
        go_ret
        exact ⟨rfl, HB.out⟩
      · rw [code_of_pos h1] at HAO
        rw [code_of_pos h1] at HAN
        rw [code_of_pos h1] at HOO
        rw [code_of_pos h2] at HPR
        rw [code_of_pos h2] at HDF
        clear h1 h2
        obtain ⟨a0, a1, a2, a3, a4, a5, a6, a7⟩ := HK.out.eight
        go_wp2_with fail
        refine (HAO.out _ HB.out HX.out).mono ?_
        rintro e9 x1 ⟨rfl, hb9⟩
        have HB' := Lib.hid (HB.out.trans (hb9.mono HB.out.size))
        have HX' := Lib.hid (In.keep (le_below hb9) _ _ HX.out)
        have HK' := Lib.hid (HK.out.on hb9)
        clear HB HX HK hb9 a0 a1 a2 a3 a4 a5 a6 a7
        have HB := Lib.hid HB'.out
        have HX := Lib.hid HX'.out
        have HK := Lib.hid HK'.out
        clear HB' HX' HK'
        obtain ⟨a0, a1, a2, a3, a4, a5, a6, a7⟩ := HK.out.eight
        go_wp2_with fail
        refine (HPR.out _ HB.out HX.out).mono ?_
        rintro e9 x2 ⟨rfl, hb9⟩
        have HB' := Lib.hid (HB.out.trans (hb9.mono HB.out.size))
        have HX' := Lib.hid (In.keep (le_below hb9) _ _ HX.out)
        have HK' := Lib.hid (HK.out.on hb9)
        clear HB HX HK hb9 a0 a1 a2 a3 a4 a5 a6 a7
        have HB := Lib.hid HB'.out
        have HX := Lib.hid HX'.out
        have HK := Lib.hid HK'.out
        clear HB' HX' HK'
        obtain ⟨a0, a1, a2, a3, a4, a5, a6, a7⟩ := HK.out.eight
        go_wp2_with fail
        refine (HAN.out _ HB.out HX.out).mono ?_
        rintro e9 x3 ⟨rfl, hb9⟩
        have HB' := Lib.hid (HB.out.trans (hb9.mono HB.out.size))
        have HX' := Lib.hid (In.keep (le_below hb9) _ _ HX.out)
        have HK' := Lib.hid (HK.out.on hb9)
        clear HB HX HK hb9 a0 a1 a2 a3 a4 a5 a6 a7
        have HB := Lib.hid HB'.out
        have HX := Lib.hid HX'.out
        have HK := Lib.hid HK'.out
        clear HB' HX' HK'
        obtain ⟨a0, a1, a2, a3, a4, a5, a6, a7⟩ := HK.out.eight
        go_wp2_with fail
        refine (HOO.out _ HB.out HX.out).mono ?_
        rintro e9 x4 ⟨rfl, hb9⟩
        have HB' := Lib.hid (HB.out.trans (hb9.mono HB.out.size))
        have HX' := Lib.hid (In.keep (le_below hb9) _ _ HX.out)
        have HK' := Lib.hid (HK.out.on hb9)
        clear HB HX HK hb9 a0 a1 a2 a3 a4 a5 a6 a7
        have HB := Lib.hid HB'.out
        have HX := Lib.hid HX'.out
        have HK := Lib.hid HK'.out
        clear HB' HX' HK'
        obtain ⟨a0, a1, a2, a3, a4, a5, a6, a7⟩ := HK.out.eight
        go_wp2_with fail
        refine (HDF.out _ HB.out HX.out).mono ?_
        rintro e9 x5 ⟨rfl, hb9⟩
        have HB' := Lib.hid (HB.out.trans (hb9.mono HB.out.size))
        have HX' := Lib.hid (In.keep (le_below hb9) _ _ HX.out)
        have HK' := Lib.hid (HK.out.on hb9)
        clear HB HX HK hb9 a0 a1 a2 a3 a4 a5 a6 a7
        have HB := Lib.hid HB'.out
        have HX := Lib.hid HX'.out
        have HK := Lib.hid HK'.out
        clear HB' HX' HK'
        obtain ⟨a0, a1, a2, a3, a4, a5, a6, a7⟩ := HK.out.eight
        go_wp2_with fail
        refine (HCO.out _ HB.out HX.out).mono ?_
        rintro e9 x6 ⟨rfl, hb9⟩
        have HB' := Lib.hid (HB.out.trans (hb9.mono HB.out.size))
        have HX' := Lib.hid (In.keep (le_below hb9) _ _ HX.out)
        have HK' := Lib.hid (HK.out.on hb9)
        clear HB HX HK hb9 a0 a1 a2 a3 a4 a5 a6 a7
        have HB := Lib.hid HB'.out
        have HX := Lib.hid HX'.out
        have HK := Lib.hid HK'.out
        clear HB' HX' HK'
        have hcat := HCAT.out
        obtain ⟨a0, a1, a2, a3, a4, a5, a6, a7⟩ := HK.out.eight
        go_wp2_with fail
        refine (HZN.out _ HB.out HX.out).mono ?_
        rintro e9 x7 ⟨rfl, hb9⟩
        have HB' := Lib.hid (HB.out.trans (hb9.mono HB.out.size))
        have HX' := Lib.hid (In.keep (le_below hb9) _ _ HX.out)
        have HK' := Lib.hid (HK.out.on hb9)
        clear HB HX HK hb9 a0 a1 a2 a3 a4 a5 a6 a7
        have HB := Lib.hid HB'.out
        have HX := Lib.hid HX'.out
        have HK := Lib.hid HK'.out
        clear HB' HX' HK'
        go_wp2_with fail
        refine (HDC.out _).mono ?_
        rintro e9 x8 ⟨rfl, rfl⟩
        go_wp2_with fail
        go_ret
        exact ⟨rfl, HB.out⟩

end Go.Proofs.YtfolfibembplbaaDoor

