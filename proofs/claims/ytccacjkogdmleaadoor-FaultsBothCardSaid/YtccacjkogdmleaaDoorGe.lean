/- FaultsBoth of layer 13 (faults), given what the program's Sort, Merge, Under are to do. (By gen_ge.py.) -/
import Derived.Test.YtccacjkogdmleaaDoorGd
namespace Go.Proofs.YtccacjkogdmleaaDoor
open Go.RowKit Js Pt

/-- Was a fault met among the first k? -/
def Fl.met (l : List Fl.F) (k : Nat) (x : Fl.F) : Bool := (l.take k).any fun y => decide (y = x)
theorem Fl.met_next {l : List Fl.F} {k : Nat} (hk : k < l.length) (x : Fl.F) : Fl.met l (k + 1) x = (Fl.met l k x || decide (l[k] = x)) := by
  unfold Fl.met
  rw [List.take_succ_eq_append_getElem hk, List.any_append]
  simp
theorem Fl.met_all {l : List Fl.F} {x : Fl.F} (h : x ∈ l) : Fl.met l l.length x = true := by
  unfold Fl.met
  rw [List.take_length]
  exact List.any_eq_true.2 ⟨x, h, decide_eq_true rfl⟩

set_option linter.unusedVariables false in
set_option linter.unusedSimpArgs false in
set_option maxRecDepth 100000 in
set_option maxHeartbeats 20000000 in
theorem faultsBoth_any {G : World → Prop} (hG : Stays G) (hS : SortT G) (hM : MergeT G) (hU : UnderT G) (a b : List Fl.F) (A B : Option Addr) (cA cB : Nat) (nm : List UInt8) (w : World) (hg : G w) (ha : FAt w A a cA) (hb : FAt w B b cB) (hla : ∀ f ∈ a, f.inst.length ≤ 2000000000000000000) (hnm : nm.length ≤ 2000000000000000000) :
    Calls Tryd.prog 4 #[.slice A a.length cA, .slice B b.length cB, .string ⟨nm.toArray⟩] w fun e w' => e = .returned (.bool true) ∧ Below w.heap.size w w' := by
  have HU := Lib.hid (up13_any hG hS hU w hg)
  have HG := Lib.hid (fun (W : World) (h : Below w.heap.size w W) => hG _ _ hg h)
  have HST := Lib.hid hS
  have HMT := Lib.hid hM
  have HUT := Lib.hid hU
  have HFA := Lib.hid ha
  have HFB0 := Lib.hid hb
  have HLA := Lib.hid hla
  have hca := ha.max
  have hcb := hb.max
  have hla1 := ha.le
  have hlb1 := hb.le
  unfold maxLen at hca hcb
  have hsz : (⟨nm.toArray⟩ : ByteArray).size = nm.length := Lib.size_mk nm
  clear hG hS hM hU hg ha hb hla
  go_enter Tryd.func4, Tryd.ntmps4
  go_wp2_with fail
  refine HU.out.mono ?_
  rintro e w0 ⟨rfl, hb0⟩
  have HB0 := Lib.hid hb0
  clear hb0 HU
  by_cases h1 : 60 < a.length
  · have d1 : (60 : Int) < (a.length : Int) := by omega
    go_wp2_with fail
    go_ret
    exact ⟨rfl, HB0.out⟩
  have d1 : ¬ (60 : Int) < (a.length : Int) := by omega
  by_cases h2 : 60 < b.length
  · have d2 : (60 : Int) < (b.length : Int) := by omega
    go_wp2_with fail
    go_ret
    exact ⟨rfl, HB0.out⟩
  have d2 : ¬ (60 : Int) < (b.length : Int) := by omega
  by_cases h3 : 100 < nm.length
  · have d3 : (100 : Int) < (nm.length : Int) := by omega
    go_wp2_with fail
    go_ret
    exact ⟨rfl, HB0.out⟩
  have d3 : ¬ (100 : Int) < (nm.length : Int) := by omega
  have HFA1 := Lib.hid (HFA.out.on HB0.out)
  have HS1 := Lib.hid (HST.out a A cA w0 (HG.out _ HB0.out) HFA1.out (by omega))
  go_wp2_with fail
  refine HS1.out.mono ?_
  rintro e1 w1 ⟨A1, c1, rfl, hf1, hb1⟩
  have HF1 := Lib.hid hf1
  have HB1 := Lib.hid (HB0.out.trans (hb1.mono HB0.out.size))
  clear hf1 hb1 HS1 HB0 HFA1
  have HS2 := Lib.hid (HST.out b B cB w1 (HG.out _ HB1.out) (HFB0.out.on HB1.out) (by omega))
  go_wp2_with fail
  refine HS2.out.mono ?_
  rintro e2 w2 ⟨A2, c2, rfl, hf2, hb2⟩
  have HF2 := Lib.hid hf2
  have HF1b := Lib.hid (HF1.out.on hb2)
  have HB2 := Lib.hid (HB1.out.trans (hb2.mono HB1.out.size))
  clear hf2 hb2 HS2 HB1 HF1
  obtain ⟨i0, hi0, hz0, hz1, hz2⟩ := infoFault
  have HBE := Lib.hid ((Below.refl w2.heap.size w2).alloc (Nat.le_refl _) (.cells #[] 28))
  have HOWE := Lib.hid (show (w2.alloc (.cells #[] 28)).ownsRow w2.heap.size 28 3 (.slice (some ⟨w2.heap.size, 0, none⟩) 0 0) 0 [] from World.ownsRow_lit w2 #[] 0 (Nat.le_refl _) (by unfold maxLen; omega) rfl)
  have HSA := Lib.hid ((HFA.out.on (HB2.out.trans (HBE.out.mono HB2.out.size))).src)
  have HFB := Lib.hid (HFB0.out.on HB2.out)
  obtain ⟨N11, hN11⟩ : ∃ N, a.length + b.length = N := ⟨_, rfl⟩
  have HN11 := Lib.hid hN11
  clear hN11
  go_wp2_with (first
    | (at_builtin; refine wpList_append_src _ rfl _ _ _ rfl w2.heap.size 28 i0 _ 3 48 Tryd.underlying22 hi0 hz0 hz1 hz2 rfl (by omega) (.slice A10 a.length c10) a.length (fFlat a) rfl HOW10.out B b.length cB (fFlat b) rfl (fFlat_length _) HSR9.out (fFlat_one _) (by unfold maxLen; omega) (by omega) (by omega) N11 HN11.out ?_; intro A11 c11 w11 hown11 hg11 hat11; have HB11 := Lib.hid (HB10.out.grown hg11 HB10.out.size (fun b hb => by have := own_far HOW10.out (k := b); exact Nat.le_of_not_lt (fun hlt => this hlt hb.symm))); have HOW11 := Lib.hid (show w11.ownsRow w2.heap.size 28 3 (.slice A11 N11 c11) N11 (fFlat (a ++ b)) by rw [fFlat_append]; exact hown11); clear hown11 hg11 hat11)
    | (at_builtin; refine wpList_append_src _ rfl _ _ _ rfl w2.heap.size 28 i0 _ 3 48 Tryd.underlying22 hi0 hz0 hz1 hz2 rfl (by omega) (.slice (some ⟨w2.heap.size, 0, none⟩) 0 0) 0 [] rfl HOWE.out A a.length cA (fFlat a) rfl (fFlat_length _) HSA.out (fFlat_one _) (by unfold maxLen; omega) (by omega) (by simp) a.length (by omega) ?_; intro A10 c10 w10 hown10 hg10 hat10; have HB10 := Lib.hid (HBE.out.grown hg10 HBE.out.size (fun b hb => by rw [ownBlock_is13 hb]; exact Nat.le_refl _)); have HOW10 := Lib.hid (show w10.ownsRow w2.heap.size 28 3 (.slice A10 a.length c10) a.length (fFlat a) from hown10); have HSR9 := Lib.hid ((HFB.out.on HB10.out).src); have hs10 := HB10.out.size; clear hown10 hg10 hat10))
  obtain ⟨hfa, hn11⟩ := fat_own HOW11.out
  have HB12 := Lib.hid (HB2.out.trans (HB11.out.mono HB2.out.size))
  have HS3 := Lib.hid (HST.out (a ++ b) A11 c11 w11 (HG.out _ HB12.out) hfa (by rw [List.length_append]; omega))
  rw [← hn11] at HS3
  have HF1c := Lib.hid (HF1b.out.on HB11.out)
  have HF2c := Lib.hid (HF2.out.on HB11.out)
  clear hfa hn11 HSA HFB HSR9 HOW10 HOW11 HOWE HBE HB2 HF1b HF2 HB10 hs10 HB11
  have HSA1 := Lib.hid (Fl.sort_few (l := a))
  have HSB1 := Lib.hid (Fl.sort_few (l := b))
  refine HS3.out.mono ?_
  rintro e3 w3 ⟨A3, c3, rfl, hf3, hb3⟩
  have HF3 := Lib.hid hf3
  have HF1 := Lib.hid (HF1c.out.on hb3)
  have HF2 := Lib.hid (HF2c.out.on hb3)
  have HB3 := Lib.hid (HB12.out.trans (hb3.mono HB12.out.size))
  clear hf3 hb3 HS3 HB12 HF1c HF2c
  have HC1 := Lib.hid (HMT.out (Fl.sort a) (Fl.sort b) A1 A2 c1 c2 w3 (HG.out _ HB3.out) HF1.out HF2.out (Fl.sort_rises a) (Fl.sort_rises b) (by have := HSA1.out; omega) (by have := HSB1.out; omega))
  rw [Fl.sort_both] at HC1
  go_wp2_with fail
  refine HC1.out.mono ?_
  rintro e4 w4 ⟨A4, c4, rfl, hf4, hb4⟩
  have HB4 := Lib.hid (HB3.out.trans (hb4.mono HB3.out.size))
  have HD1 := Lib.hid (sameFP (Fl.sort (a ++ b)) A4 c4 A3 c3 w4 hf4 (HF3.out.on hb4))
  have HF1d := Lib.hid (HF1.out.on hb4)
  have HF2d := Lib.hid (HF2.out.on hb4)
  have HF3d := Lib.hid (HF3.out.on hb4)
  clear hf4 hb4 HC1 HF1 HF2 HF3 HB3
  go_wp2_with fail
  refine HD1.out.mono ?_
  rintro e5 w5 ⟨rfl, hb5⟩
  have HB5 := Lib.hid (HB4.out.trans (hb5.mono HB4.out.size))
  have HF1e := Lib.hid (HF1d.out.on hb5)
  have HF2e := Lib.hid (HF2d.out.on hb5)
  have HF3e := Lib.hid (HF3d.out.on hb5)
  clear hb5 HD1 HB4 HF1d HF2d HF3d
  have HC2 := Lib.hid (HMT.out (Fl.sort b) (Fl.sort a) A2 A1 c2 c1 w5 (HG.out _ HB5.out) HF2e.out HF1e.out (Fl.sort_rises b) (Fl.sort_rises a) (by have := HSB1.out; omega) (by have := HSA1.out; omega))
  rw [Fl.sort_swap] at HC2
  go_wp2_with fail
  refine HC2.out.mono ?_
  rintro e6 w6 ⟨A6, c6, rfl, hf6, hb6⟩
  have HB6 := Lib.hid (HB5.out.trans (hb6.mono HB5.out.size))
  have HD2 := Lib.hid (sameFP (Fl.sort (a ++ b)) A6 c6 A3 c3 w6 hf6 (HF3e.out.on hb6))
  have HF1f := Lib.hid (HF1e.out.on hb6)
  clear hf6 hb6 HC2 HF1e HF2e HF3e HB5
  go_wp2_with fail
  refine HD2.out.mono ?_
  rintro e7 w7 ⟨rfl, hb7⟩
  have HB7 := Lib.hid (HB6.out.trans (hb7.mono HB6.out.size))
  have HF1g := Lib.hid (HF1f.out.on hb7)
  clear hb7 HD2 HF1f HB6
  have HC3 := Lib.hid (HST.out (Fl.sort a) A1 c1 w7 (HG.out _ HB7.out) HF1g.out (by have := HSA1.out; omega))
  rw [Fl.sort_self (Fl.sort_rises a)] at HC3
  go_wp2_with fail
  refine HC3.out.mono ?_
  rintro e8 w8 ⟨A8, c8, rfl, hf8, hb8⟩
  have HB8 := Lib.hid (HB7.out.trans (hb8.mono HB7.out.size))
  have HD3 := Lib.hid (sameFP (Fl.sort a) A8 c8 A1 c1 w8 hf8 (HF1g.out.on hb8))
  have HF1h := Lib.hid (HF1g.out.on hb8)
  clear hf8 hb8 HC3 HF1g HB7
  go_wp2_with fail
  refine HD3.out.mono ?_
  rintro e9 w9 ⟨rfl, hb9⟩
  have HB9 := Lib.hid (HB8.out.trans (hb9.mono HB8.out.size))
  have HFX := Lib.hid (HF1h.out.on hb9)
  have HFA9 := Lib.hid (HFA.out.on HB9.out)
  have hmax1 := HFX.out.max
  have hle1 := HFX.out.le
  unfold maxLen at hmax1
  clear hb9 HD3 HF1h HB8
  have HMA := Lib.hid (fun x => (Fl.sort_mem (y := x) (l := a)))
  obtain ⟨xs, hxs⟩ : ∃ xs, Fl.sort a = xs := ⟨_, rfl⟩
  have HXS := Lib.hid hxs
  rw [hxs] at HFX HMA HSA1 hle1 ⊢
  clear hxs
  go_wp2_with fail
  go_loopw [11] (fun i wr => ∃ i' : Nat, i' ≤ a.length ∧ i = .int .i64 i' ∧ Below w9.heap.size w9 wr) (fun i _ => a.length - (intOf i).toNat)
  case atStart => exact ⟨0, by omega, rfl, Below.refl _ _⟩
  case round =>
    obtain ⟨i, hi, rfl, hbr⟩ := hrel
    obtain ⟨wq, hwq⟩ : ∃ W, W = wr := ⟨_, rfl⟩
    subst hwq
    have HBQ := Lib.hid hbr
    clear hbr
    by_cases hlt : i < a.length
    · have hii : (i : Int) < (a.length : Int) := by omega
      obtain ⟨g, o, hA, c0, c1', c2'⟩ := HFA9.out.sl i _ (List.getElem?_eq_getElem hlt)
      obtain ⟨x, hx⟩ : ∃ x, a[i]'hlt = x := ⟨_, rfl⟩
      have HIN := Lib.hid (Fl.met_all ((HMA.out _).2 (hx ▸ List.getElem_mem hlt)))
      rw [hx] at c0 c1' c2'
      clear hx
      obtain ⟨x1, x2, x3⟩ := x
      simp only at c0 c1' c2'
      have HXC := Lib.hid (fun (W : World) (h : Below w9.heap.size w9 W) => (⟨le_below h _ _ c0, le_below h _ _ c1', le_below h _ _ c2'⟩ : W.cell? ⟨g, o + i * 3, none⟩ = some (.string ⟨x1.toArray⟩) ∧ W.cell? ⟨g, o + i * 3 + 1, none⟩ = some (.string ⟨x2.toArray⟩) ∧ W.cell? ⟨g, o + i * 3 + 2, none⟩ = some (.string ⟨x3.toArray⟩)))
      clear c0 c1' c2'
      have HA := Lib.hid hA
      clear hA
      go_wp2_with fail
      go_loopw [12, 13] (fun h k wr => ∃ k' : Nat, h = .bool (Fl.met xs k' ⟨x1, x2, x3⟩) ∧ k = .int .i64 k' ∧ k' ≤ xs.length ∧ Below w9.heap.size w9 wr) (fun _ k _ => xs.length - (intOf k).toNat)
      case atStart => exact ⟨0, rfl, rfl, Nat.zero_le _, HBQ.out⟩
      case round =>
        obtain ⟨k, rfl, rfl, hk, hbk⟩ := hrel
        obtain ⟨wk, hwk⟩ : ∃ W, W = wr := ⟨_, rfl⟩
        subst hwk
        have HBK := Lib.hid hbk
        clear hbk
        by_cases hka : k < xs.length
        · have hkk : (k : Int) < (xs.length : Int) := by omega
          obtain ⟨g2, o2, hA2, d0, d1, d2⟩ := HFX.out.sl k _ (List.getElem?_eq_getElem hka)
          have HMN := Lib.hid (Fl.met_next hka ⟨x1, x2, x3⟩)
          obtain ⟨y, hy⟩ : ∃ y, xs[k]'hka = y := ⟨_, rfl⟩
          rw [hy] at d0 d1 d2 HMN
          clear hy
          obtain ⟨y1, y2, y3⟩ := y
          simp only at d0 d1 d2
          have d0 := (le_below HBK.out) _ _ d0
          have d1 := (le_below HBK.out) _ _ d1
          have d2 := (le_below HBK.out) _ _ d2
          obtain ⟨c0, c1', c2'⟩ := HXC.out _ HBK.out
          have hgl := World.block_lt_of_cell? _ _ c0
          have hgl2 := World.block_lt_of_cell? _ _ d0
          obtain ⟨m, hm⟩ : ∃ m, Fl.met xs k ⟨x1, x2, x3⟩ = m := ⟨_, rfl⟩
          rw [hm] at HMN ⊢
          clear hm
          have hA := HA.out
          obtain ⟨nb, hnb⟩ : ∃ nb, (m || decide ((⟨y1, y2, y3⟩ : Fl.F) = ⟨x1, x2, x3⟩)) = nb := ⟨_, rfl⟩
          have HNB := Lib.hid (HMN.out.trans hnb)
          have HNB2 := Lib.hid hnb
          clear HMN hnb
          go_upto_region 16 with (fail)
          skip
          · cases m with
            | true =>
              have hn1 : nb = true := by rw [← HNB2.out]; rfl
              subst hn1
              go_quiet (fail)
              go_wp2_with fail
              go_roundw
              case rel => exact ⟨k + 1, by rw [HNB.out], by go_num, by omega, below_drewN HBK.out _⟩
              case measure => simp [intOf]; omega
            | false =>
              rw [hA]
              rw [hA2]
              by_cases hxy : (⟨y1, y2, y3⟩ : Fl.F) = ⟨x1, x2, x3⟩
              · have hn1 : nb = true := by rw [← HNB2.out, decide_eq_true hxy]; rfl
                subst hn1
                obtain ⟨rfl, rfl, rfl⟩ := Fl.F.eq_iff.1 hxy
                go_quiet (fail)
                go_wp2_with fail
                go_roundw
                case rel => exact ⟨k + 1, by rw [HNB.out], by go_num, by omega, below_drewN HBK.out _⟩
                case measure => simp [intOf]; omega
              · have hn1 : nb = false := by rw [← HNB2.out, decide_eq_false hxy]; rfl
                subst hn1
                have hne : ¬ y1 = x1 ∨ (y1 = x1 ∧ ¬ y2 = x2) ∨ (y1 = x1 ∧ y2 = x2 ∧ ¬ y3 = x3) := by
                  by_cases h1 : y1 = x1
                  · by_cases h2 : y2 = x2
                    · exact .inr (.inr ⟨h1, h2, fun h3 => hxy (Fl.F.eq_iff.2 ⟨h1, h2, h3⟩)⟩)
                    · exact .inr (.inl ⟨h1, h2⟩)
                  · exact .inl h1
                clear hxy
                rcases hne with h1 | ⟨rfl, h1⟩ | ⟨rfl, rfl, h1⟩
                all_goals
                  have e1 := beq_eq_false_iff_ne.2 h1
                  have e2 := beq_eq_false_iff_ne.2 (fun e => h1 (Eq.symm e))
                  go_quiet (fail)
                  go_wp2_with fail
                  go_roundw
                  case rel => exact ⟨k + 1, by rw [HNB.out], by go_num, by omega, below_drewN HBK.out _⟩
                  case measure => simp [intOf]; omega
        · obtain rfl : k = xs.length := by omega
          rw [HIN.out]
          go_wp2_with fail
          go_roundw
          case rel => exact ⟨i + 1, by omega, by go_num, HBK.out⟩
          case measure => simp [intOf]; omega
    · obtain rfl : i = a.length := by omega
      have HB9b := Lib.hid (HB9.out.trans (HBQ.out.mono HB9.out.size))
      have HFXb := Lib.hid (HFX.out.on HBQ.out)
      have HFAb := Lib.hid (HFA9.out.on HBQ.out)
      clear HB9 HFX HFA9 HBQ
      have HB9 := HB9b
      have HFX := HFXb
      have HFA9 := HFAb
      clear HB9b HFXb HFAb
      obtain ⟨w9, hw9⟩ : ∃ W, W = wq := ⟨_, rfl⟩
      subst hw9
      go_wp2_with fail
      go_loopw [14] (fun i wr => ∃ i' : Nat, i' ≤ xs.length ∧ i = .int .i64 i' ∧ Below w9.heap.size w9 wr) (fun i _ => xs.length - (intOf i).toNat)
      case atStart => exact ⟨0, by omega, rfl, Below.refl _ _⟩
      case round =>
        obtain ⟨i, hi, rfl, hbr⟩ := hrel
        obtain ⟨wq, hwq⟩ : ∃ W, W = wr := ⟨_, rfl⟩
        subst hwq
        have HBQ := Lib.hid hbr
        clear hbr
        by_cases hlt : i < xs.length
        · have hii : (i : Int) < (xs.length : Int) := by omega
          obtain ⟨g, o, hA, c0, c1', c2'⟩ := HFX.out.sl i _ (List.getElem?_eq_getElem hlt)
          obtain ⟨x, hx⟩ : ∃ x, xs[i]'hlt = x := ⟨_, rfl⟩
          have HIN := Lib.hid (Fl.met_all ((HMA.out _).1 (hx ▸ List.getElem_mem hlt)))
          rw [hx] at c0 c1' c2'
          clear hx
          obtain ⟨x1, x2, x3⟩ := x
          simp only at c0 c1' c2'
          have HXC := Lib.hid (fun (W : World) (h : Below w9.heap.size w9 W) => (⟨le_below h _ _ c0, le_below h _ _ c1', le_below h _ _ c2'⟩ : W.cell? ⟨g, o + i * 3, none⟩ = some (.string ⟨x1.toArray⟩) ∧ W.cell? ⟨g, o + i * 3 + 1, none⟩ = some (.string ⟨x2.toArray⟩) ∧ W.cell? ⟨g, o + i * 3 + 2, none⟩ = some (.string ⟨x3.toArray⟩)))
          clear c0 c1' c2'
          have HA := Lib.hid hA
          clear hA
          go_wp2_with fail
          go_loopw [15, 16] (fun h k wr => ∃ k' : Nat, h = .bool (Fl.met a k' ⟨x1, x2, x3⟩) ∧ k = .int .i64 k' ∧ k' ≤ a.length ∧ Below w9.heap.size w9 wr) (fun _ k _ => a.length - (intOf k).toNat)
          case atStart => exact ⟨0, rfl, rfl, Nat.zero_le _, HBQ.out⟩
          case round =>
            obtain ⟨k, rfl, rfl, hk, hbk⟩ := hrel
            obtain ⟨wk, hwk⟩ : ∃ W, W = wr := ⟨_, rfl⟩
            subst hwk
            have HBK := Lib.hid hbk
            clear hbk
            by_cases hka : k < a.length
            · have hkk : (k : Int) < (a.length : Int) := by omega
              obtain ⟨g2, o2, hA2, d0, d1, d2⟩ := HFA9.out.sl k _ (List.getElem?_eq_getElem hka)
              have HMN := Lib.hid (Fl.met_next hka ⟨x1, x2, x3⟩)
              obtain ⟨y, hy⟩ : ∃ y, a[k]'hka = y := ⟨_, rfl⟩
              rw [hy] at d0 d1 d2 HMN
              clear hy
              obtain ⟨y1, y2, y3⟩ := y
              simp only at d0 d1 d2
              have d0 := (le_below HBK.out) _ _ d0
              have d1 := (le_below HBK.out) _ _ d1
              have d2 := (le_below HBK.out) _ _ d2
              obtain ⟨c0, c1', c2'⟩ := HXC.out _ HBK.out
              have hgl := World.block_lt_of_cell? _ _ c0
              have hgl2 := World.block_lt_of_cell? _ _ d0
              obtain ⟨m, hm⟩ : ∃ m, Fl.met a k ⟨x1, x2, x3⟩ = m := ⟨_, rfl⟩
              rw [hm] at HMN ⊢
              clear hm
              have hA := HA.out
              obtain ⟨nb, hnb⟩ : ∃ nb, (m || decide ((⟨y1, y2, y3⟩ : Fl.F) = ⟨x1, x2, x3⟩)) = nb := ⟨_, rfl⟩
              have HNB := Lib.hid (HMN.out.trans hnb)
              have HNB2 := Lib.hid hnb
              clear HMN hnb
              go_upto_region 26 with (fail)
              skip
              · cases m with
                | true =>
                  have hn1 : nb = true := by rw [← HNB2.out]; rfl
                  subst hn1
                  go_quiet (fail)
                  go_wp2_with fail
                  go_roundw
                  case rel => exact ⟨k + 1, by rw [HNB.out], by go_num, by omega, below_drewN HBK.out _⟩
                  case measure => simp [intOf]; omega
                | false =>
                  rw [hA]
                  rw [hA2]
                  by_cases hxy : (⟨y1, y2, y3⟩ : Fl.F) = ⟨x1, x2, x3⟩
                  · have hn1 : nb = true := by rw [← HNB2.out, decide_eq_true hxy]; rfl
                    subst hn1
                    obtain ⟨rfl, rfl, rfl⟩ := Fl.F.eq_iff.1 hxy
                    go_quiet (fail)
                    go_wp2_with fail
                    go_roundw
                    case rel => exact ⟨k + 1, by rw [HNB.out], by go_num, by omega, below_drewN HBK.out _⟩
                    case measure => simp [intOf]; omega
                  · have hn1 : nb = false := by rw [← HNB2.out, decide_eq_false hxy]; rfl
                    subst hn1
                    have hne : ¬ y1 = x1 ∨ (y1 = x1 ∧ ¬ y2 = x2) ∨ (y1 = x1 ∧ y2 = x2 ∧ ¬ y3 = x3) := by
                      by_cases h1 : y1 = x1
                      · by_cases h2 : y2 = x2
                        · exact .inr (.inr ⟨h1, h2, fun h3 => hxy (Fl.F.eq_iff.2 ⟨h1, h2, h3⟩)⟩)
                        · exact .inr (.inl ⟨h1, h2⟩)
                      · exact .inl h1
                    clear hxy
                    rcases hne with h1 | ⟨rfl, h1⟩ | ⟨rfl, rfl, h1⟩
                    all_goals
                      have e1 := beq_eq_false_iff_ne.2 h1
                      have e2 := beq_eq_false_iff_ne.2 (fun e => h1 (Eq.symm e))
                      go_quiet (fail)
                      go_wp2_with fail
                      go_roundw
                      case rel => exact ⟨k + 1, by rw [HNB.out], by go_num, by omega, below_drewN HBK.out _⟩
                      case measure => simp [intOf]; omega
            · obtain rfl : k = a.length := by omega
              rw [HIN.out]
              go_wp2_with fail
              go_roundw
              case rel => exact ⟨i + 1, by omega, by go_num, HBK.out⟩
              case measure => simp [intOf]; omega
        · obtain rfl : i = xs.length := by omega
          have HB10 := Lib.hid (HB9.out.trans (HBQ.out.mono HB9.out.size))
          have HLX := Lib.hid (show ∀ f ∈ xs, f.inst.length ≤ 2000000000000000000 from fun f hf => HLA.out f ((HMA.out f).1 hf))
          have HC4 := Lib.hid (HUT.out nm xs A1 c1 wq (HG.out _ HB10.out) (by omega) (HFX.out.on HBQ.out) (by have := HSA1.out; omega) HLX.out)
          go_wp2_with fail
          refine HC4.out.mono ?_
          rintro e11 w11 ⟨A12, c12, rfl, hf11, hb11⟩
          have HB11 := Lib.hid (HB10.out.trans (hb11.mono HB10.out.size))
          have HUR := Lib.hid (Fl.under_rises (text [nm]) (show Fl.Rises xs by rw [← HXS.out]; exact Fl.sort_rises a))
          have HUL := Lib.hid (Fl.under_length (text [nm]) xs)
          have HF11 := Lib.hid hf11
          obtain ⟨us, hus⟩ : ∃ us, Fl.under (text [nm]) xs = us := ⟨_, rfl⟩
          rw [hus] at HUR HUL HF11 ⊢
          have HC5 := Lib.hid (HST.out us A12 c12 w11 (HG.out _ HB11.out) HF11.out (by have := HUL.out; have := HSA1.out; omega))
          rw [Fl.sort_self HUR.out] at HC5
          clear hf11 hb11 HC4 hus
          go_wp2_with fail
          refine HC5.out.mono ?_
          rintro e12 w12 ⟨A13, c13, rfl, hf12, hb12⟩
          have HB12 := Lib.hid (HB11.out.trans (hb12.mono HB11.out.size))
          have HD4 := Lib.hid (sameFP us A13 c13 A12 c12 w12 hf12 (HF11.out.on hb12))
          clear hf12 hb12 HC5 HF11
          go_wp2_with fail
          refine HD4.out.mono ?_
          rintro e13 w13 ⟨rfl, hb13⟩
          have HB13 := Lib.hid (HB12.out.trans (hb13.mono HB12.out.size))
          clear hb13 HD4
          go_wp2_with fail
          go_ret
          exact ⟨rfl, HB13.out⟩

end Go.Proofs.YtccacjkogdmleaaDoor

