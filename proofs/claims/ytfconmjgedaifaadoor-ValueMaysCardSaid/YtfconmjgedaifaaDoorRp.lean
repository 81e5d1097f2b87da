/- The walks of layer 3: ValueMays. (By gen_vmays.py.) -/
import Derived.Test.YtfconmjgedaifaaDoorRo
import Derived.Test.YtfconmjgedaifaaDoorRn
namespace Go.Proofs.YtfconmjgedaifaaDoor
open Go.RowKit Js

theorem Blk.other {w : World} {g : Nat} {t : TypeId} {cs : Array Value} (h : Blk w g t cs) {p : Addr} (hne : g ≠ p.block) (u : Value) : Blk (w.setCell p u) g t cs :=
  (Below.heap_setCell _ _ _ _ hne).trans h
theorem one_in {c : Cl} {g : Nat} {k : Int} {b : Bool} {n : Nm.Num} {s : List UInt8} {v : Vl} {x : Value} (h : v.In c x) (h1 : CellsAt c g 0 x) :
    (Vl.mk k b n s [v] []).In c (vlV k b n.neg n.digits n.exp s (.slice (some ⟨g, 0, none⟩) 1 1) (.slice none 0 0)) := by
  simp only [Vl.In]
  exact ⟨some ⟨g, 0, none⟩, 1, none, 0, rfl, Nat.le_refl _, by simp [maxLen], Nat.le_refl _, by simp [maxLen], fun _ => ⟨g, 0, rfl, by simp only [LIn]; exact ⟨⟨x, h, h1⟩, trivial⟩⟩, fun h => absurd h (by simp)⟩
theorem pairk_in {c : Cl} {g : Nat} {q : Int} {k k' : List UInt8} {v v' : Vl} {x x' : Value} (h : v.In c x) (h' : v'.In c x') (hk : c ⟨g, 0, none⟩ = some (.string ⟨k.toArray⟩)) (h1 : CellsAt c g 1 x) (hk' : c ⟨g, 9, none⟩ = some (.string ⟨k'.toArray⟩)) (h2 : CellsAt c g 10 x') :
    (Vl.mk q false Nm.Num.zero [] [] [(k, v), (k', v')]).In c (vlV q false false [] 0 [] (.slice none 0 0) (.slice (some ⟨g, 0, none⟩) 2 2)) := by
  simp only [Vl.In]
  exact ⟨none, 0, some ⟨g, 0, none⟩, 2, rfl, Nat.le_refl _, by simp [maxLen], Nat.le_refl _, by simp [maxLen], fun h => absurd h (by simp), fun _ => ⟨g, 0, rfl, by simp only [MIn, PIn]; exact ⟨⟨hk, x, h, h1⟩, ⟨hk', x', h', h2⟩, trivial⟩⟩⟩
/-- May of both sides, wherever a small value stands. -/
theorem mays_on {v : Vl} {x : Value} {W : World} (hT : Tabs W) (hlv : v.levels ≤ 65536) (hs : v.slim 500) (hx : v.In W.cell? x) {q : Bool} (hq : v.may = q) :
    (∀ w', Below W.heap.size W w' → Calls Tryd.prog 35 #[x] w' fun e w'' => e = .returned (.bool q) ∧ Below w'.heap.size w' w'') ∧
    (∀ w', Below W.heap.size W w' → Calls Tryd.prog 41 #[x] w' fun e w'' => e = .returned (.bool q) ∧ Below w'.heap.size w' w'') := by
  refine ⟨may_on hT hlv (slim_mono (by omega) _ hs) hx hq, fun w' hb => ?_⟩
  subst hq
  exact refMay_any v x w' (In.keep (le_below hb) _ _ hx) (slim_mono (by omega) _ hs)
theorem zero_slim (N : Nat) : (Vl.mk 0 false Nm.Num.zero [] [] []).slim N := arr0_slim 0 N

set_option linter.unusedVariables false in
set_option linter.unusedSimpArgs false in
set_option maxRecDepth 100000 in
set_option maxHeartbeats 2000000 in
theorem valueMays_long (k : Int) (b neg : Bool) (dg : List UInt8) (ex : Int) (s key other : List UInt8) (list : Bool) (w : World) (hT : Tabs w) (h : ¬ (s.length ≤ 500 ∧ key.length ≤ 500 ∧ other.length ≤ 500 ∧ dg.length ≤ 500)) :
    Calls Tryd.prog 8 #[.int .i64 k, .bool b, .agg #[.bool neg, .string ⟨dg.toArray⟩, .int .i64 ex], .string ⟨s.toArray⟩, .string ⟨key.toArray⟩, .string ⟨other.toArray⟩, .bool list] w fun e w' => e = .returned (.bool true) ∧ Below w.heap.size w w' := by
  have hb0 : Below w.heap.size w (w.alloc (.cells #[.bool neg, .string ⟨dg.toArray⟩, .int .i64 ex] 24)) := (Below.refl _ _).alloc (Nat.le_refl _) _
  have HB0 := Lib.hid hb0
  have HT0 := Lib.hid (hT.on hb0)
  have HN0 := Lib.hid (Blk.new w 24 #[.bool neg, .string ⟨dg.toArray⟩, .int .i64 ex])
  clear hb0 hT
  have hd : 500 < s.length ∨ (¬ 500 < s.length ∧ 500 < key.length) ∨ (¬ 500 < s.length ∧ ¬ 500 < key.length ∧ 500 < other.length) ∨ (¬ 500 < s.length ∧ ¬ 500 < key.length ∧ ¬ 500 < other.length ∧ 500 < dg.length) := by omega
  clear h
  go_enter Tryd.func8, Tryd.ntmps8
  go_upto_region 1 with (fail)
  generalize w.alloc (.cells #[.bool neg, .string ⟨dg.toArray⟩, .int .i64 ex] 24) = W0 at *
  go_wp2_with fail
  refine (up3_any _ HT0.out).mono ?_
  rintro e w0 ⟨rfl, hb1⟩
  have HB1 := Lib.hid (HB0.out.trans (hb1.mono HB0.out.size))
  have n0 := (HN0.out.on hb1).cell 0
  have n1 := (HN0.out.on hb1).cell 1
  have n2 := (HN0.out.on hb1).cell 2
  clear hb1
  rcases hd with h1 | ⟨h1, h2⟩ | ⟨h1, h2, h3⟩ | ⟨h1, h2, h3, h4⟩
  · have t1 : decide ((500 : Int) < (s.length : Int)) = true := by simp; omega
    go_wp2_with fail
    go_ret
    exact ⟨rfl, HB1.out⟩
  · have t1 : decide ((500 : Int) < (s.length : Int)) = false := by simp; omega
    have t2 : decide ((500 : Int) < (key.length : Int)) = true := by simp; omega
    go_wp2_with fail
    go_ret
    exact ⟨rfl, HB1.out⟩
  · have t1 : decide ((500 : Int) < (s.length : Int)) = false := by simp; omega
    have t2 : decide ((500 : Int) < (key.length : Int)) = false := by simp; omega
    have t3 : decide ((500 : Int) < (other.length : Int)) = true := by simp; omega
    go_wp2_with fail
    go_ret
    exact ⟨rfl, HB1.out⟩
  · have t1 : decide ((500 : Int) < (s.length : Int)) = false := by simp; omega
    have t2 : decide ((500 : Int) < (key.length : Int)) = false := by simp; omega
    have t3 : decide ((500 : Int) < (other.length : Int)) = false := by simp; omega
    have t4 : decide ((500 : Int) < (dg.length : Int)) = true := by simp; omega
    go_wp2_with fail
    go_ret
    exact ⟨rfl, HB1.out⟩

set_option linter.unusedVariables false in
set_option linter.unusedSimpArgs false in
set_option maxRecDepth 100000 in
set_option maxHeartbeats 8000000 in
theorem valueMays_short (k : Int) (b neg : Bool) (dg : List UInt8) (ex : Int) (s key other : List UInt8) (list : Bool) (w : World) (hT : Tabs w) (h1 : s.length ≤ 500) (h2 : key.length ≤ 500) (h3 : other.length ≤ 500) (h4 : dg.length ≤ 500) :
    Calls Tryd.prog 8 #[.int .i64 k, .bool b, .agg #[.bool neg, .string ⟨dg.toArray⟩, .int .i64 ex], .string ⟨s.toArray⟩, .string ⟨key.toArray⟩, .string ⟨other.toArray⟩, .bool list] w fun e w' => e = .returned (.bool true) ∧ Below w.heap.size w w' := by
  have hb0 : Below w.heap.size w (w.alloc (.cells #[.bool neg, .string ⟨dg.toArray⟩, .int .i64 ex] 24)) := (Below.refl _ _).alloc (Nat.le_refl _) _
  have HB0 := Lib.hid hb0
  have HT0 := Lib.hid (hT.on hb0)
  have HN0 := Lib.hid (Blk.new w 24 #[.bool neg, .string ⟨dg.toArray⟩, .int .i64 ex])
  clear hb0 hT
  have t1 : decide ((500 : Int) < (s.length : Int)) = false := by simp; omega
  have t2 : decide ((500 : Int) < (key.length : Int)) = false := by simp; omega
  have t3 : decide ((500 : Int) < (other.length : Int)) = false := by simp; omega
  have t4 : decide ((500 : Int) < (dg.length : Int)) = false := by simp; omega
  go_enter Tryd.func8, Tryd.ntmps8
  go_upto_region 1 with (fail)
  generalize w.alloc (.cells #[.bool neg, .string ⟨dg.toArray⟩, .int .i64 ex] 24) = W0 at *
  go_wp2_with fail
  refine (up3_any _ HT0.out).mono ?_
  rintro e w0 ⟨rfl, hb1⟩
  have HB1 := Lib.hid (HB0.out.trans (hb1.mono HB0.out.size))
  have HT1 := Lib.hid (HT0.out.on hb1)
  have n0 := (HN0.out.on hb1).cell 0
  have n1 := (HN0.out.on hb1).cell 1
  have n2 := (HN0.out.on hb1).cell 2
  clear hb1 HN0 HT0 HB0
  have HV4 := Lib.hid (Blk.new w0 52 #[.int .i64 k, .bool b, .bool neg, .string ⟨dg.toArray⟩, .int .i64 ex, .string ⟨s.toArray⟩, .slice none 0 0, .slice none 0 0])
  have HBA := Lib.hid (show Below w0.heap.size w0 (w0.alloc (.cells #[.int .i64 k, .bool b, .bool neg, .string ⟨dg.toArray⟩, .int .i64 ex, .string ⟨s.toArray⟩, .slice none 0 0, .slice none 0 0] 52)) from (Below.refl _ _).alloc (Nat.le_refl _) _)
  go_upto_region 5 with (fail)
  generalize w0.alloc (.cells #[.int .i64 k, .bool b, .bool neg, .string ⟨dg.toArray⟩, .int .i64 ex, .string ⟨s.toArray⟩, .slice none 0 0, .slice none 0 0] 52) = w4 at *
  have hlt04 : w0.heap.size < w4.heap.size := HV4.out.lt
  obtain ⟨c0, c1, c2, c3, c4, c5, c6, c7⟩ := HV4.out.eight
  have HV5 := Lib.hid ((HV4.out.alloc (.cells #[.int .i64 0, .bool false, .bool false, .string ⟨#[]⟩, .int .i64 0, .string ⟨#[]⟩, .slice none 0 0, .slice none 0 0, .int .i64 k, .bool b, .bool neg, .string ⟨dg.toArray⟩, .int .i64 ex, .string ⟨s.toArray⟩, .slice none 0 0, .slice none 0 0] 52)).alloc (.cells #[.int .i64 4, .bool false, .bool false, .string ⟨#[]⟩, .int .i64 0, .string ⟨#[]⟩, .slice (some ⟨w4.heap.size, 0, none⟩) 2 2, .slice none 0 0] 52))
  have HAL5 := Lib.hid ((Blk.new w4 52 #[.int .i64 0, .bool false, .bool false, .string ⟨#[]⟩, .int .i64 0, .string ⟨#[]⟩, .slice none 0 0, .slice none 0 0, .int .i64 k, .bool b, .bool neg, .string ⟨dg.toArray⟩, .int .i64 ex, .string ⟨s.toArray⟩, .slice none 0 0, .slice none 0 0]).alloc (.cells #[.int .i64 4, .bool false, .bool false, .string ⟨#[]⟩, .int .i64 0, .string ⟨#[]⟩, .slice (some ⟨w4.heap.size, 0, none⟩) 2 2, .slice none 0 0] 52))
  have HL5 := Lib.hid (Blk.new2 w4 (.cells #[.int .i64 0, .bool false, .bool false, .string ⟨#[]⟩, .int .i64 0, .string ⟨#[]⟩, .slice none 0 0, .slice none 0 0, .int .i64 k, .bool b, .bool neg, .string ⟨dg.toArray⟩, .int .i64 ex, .string ⟨s.toArray⟩, .slice none 0 0, .slice none 0 0] 52) 52 #[.int .i64 4, .bool false, .bool false, .string ⟨#[]⟩, .int .i64 0, .string ⟨#[]⟩, .slice (some ⟨w4.heap.size, 0, none⟩) 2 2, .slice none 0 0])
  have HBB := Lib.hid (show Below w0.heap.size w0 ((w4.alloc (.cells #[.int .i64 0, .bool false, .bool false, .string ⟨#[]⟩, .int .i64 0, .string ⟨#[]⟩, .slice none 0 0, .slice none 0 0, .int .i64 k, .bool b, .bool neg, .string ⟨dg.toArray⟩, .int .i64 ex, .string ⟨s.toArray⟩, .slice none 0 0, .slice none 0 0] 52)).alloc (.cells #[.int .i64 4, .bool false, .bool false, .string ⟨#[]⟩, .int .i64 0, .string ⟨#[]⟩, .slice (some ⟨w4.heap.size, 0, none⟩) 2 2, .slice none 0 0] 52)) from (HBA.out.alloc HBA.out.size _).alloc (by have := HBA.out.size; simp; omega) _)
  go_upto_region 6 with (fail)
  generalize (w4.alloc (.cells #[.int .i64 0, .bool false, .bool false, .string ⟨#[]⟩, .int .i64 0, .string ⟨#[]⟩, .slice none 0 0, .slice none 0 0, .int .i64 k, .bool b, .bool neg, .string ⟨dg.toArray⟩, .int .i64 ex, .string ⟨s.toArray⟩, .slice none 0 0, .slice none 0 0] 52)).alloc (.cells #[.int .i64 4, .bool false, .bool false, .string ⟨#[]⟩, .int .i64 0, .string ⟨#[]⟩, .slice (some ⟨w4.heap.size, 0, none⟩) 2 2, .slice none 0 0] 52) = w5 at *
  have hlt45 : w4.heap.size + 1 < w5.heap.size := HL5.out.lt
  clear c0 c1 c2 c3 c4 c5 c6 c7 HV4 HBA
  obtain ⟨c0, c1, c2, c3, c4, c5, c6, c7⟩ := HV5.out.eight
  have HV6 := Lib.hid ((HV5.out.alloc (.cells #[.string ⟨key.toArray⟩, .int .i64 0, .bool false, .bool false, .string ⟨#[]⟩, .int .i64 0, .string ⟨#[]⟩, .slice none 0 0, .slice none 0 0, .string ⟨other.toArray⟩, .int .i64 k, .bool b, .bool neg, .string ⟨dg.toArray⟩, .int .i64 ex, .string ⟨s.toArray⟩, .slice none 0 0, .slice none 0 0] 62)).alloc (.cells #[.int .i64 5, .bool false, .bool false, .string ⟨#[]⟩, .int .i64 0, .string ⟨#[]⟩, .slice none 0 0, .slice (some ⟨w5.heap.size, 0, none⟩) 2 2] 52))
  have HAL6 := Lib.hid ((HAL5.out.alloc (.cells #[.string ⟨key.toArray⟩, .int .i64 0, .bool false, .bool false, .string ⟨#[]⟩, .int .i64 0, .string ⟨#[]⟩, .slice none 0 0, .slice none 0 0, .string ⟨other.toArray⟩, .int .i64 k, .bool b, .bool neg, .string ⟨dg.toArray⟩, .int .i64 ex, .string ⟨s.toArray⟩, .slice none 0 0, .slice none 0 0] 62)).alloc (.cells #[.int .i64 5, .bool false, .bool false, .string ⟨#[]⟩, .int .i64 0, .string ⟨#[]⟩, .slice none 0 0, .slice (some ⟨w5.heap.size, 0, none⟩) 2 2] 52))
  have HL6 := Lib.hid ((HL5.out.alloc (.cells #[.string ⟨key.toArray⟩, .int .i64 0, .bool false, .bool false, .string ⟨#[]⟩, .int .i64 0, .string ⟨#[]⟩, .slice none 0 0, .slice none 0 0, .string ⟨other.toArray⟩, .int .i64 k, .bool b, .bool neg, .string ⟨dg.toArray⟩, .int .i64 ex, .string ⟨s.toArray⟩, .slice none 0 0, .slice none 0 0] 62)).alloc (.cells #[.int .i64 5, .bool false, .bool false, .string ⟨#[]⟩, .int .i64 0, .string ⟨#[]⟩, .slice none 0 0, .slice (some ⟨w5.heap.size, 0, none⟩) 2 2] 52))
  have HAM6 := Lib.hid ((Blk.new w5 62 #[.string ⟨key.toArray⟩, .int .i64 0, .bool false, .bool false, .string ⟨#[]⟩, .int .i64 0, .string ⟨#[]⟩, .slice none 0 0, .slice none 0 0, .string ⟨other.toArray⟩, .int .i64 k, .bool b, .bool neg, .string ⟨dg.toArray⟩, .int .i64 ex, .string ⟨s.toArray⟩, .slice none 0 0, .slice none 0 0]).alloc (.cells #[.int .i64 5, .bool false, .bool false, .string ⟨#[]⟩, .int .i64 0, .string ⟨#[]⟩, .slice none 0 0, .slice (some ⟨w5.heap.size, 0, none⟩) 2 2] 52))
  have HM6 := Lib.hid (Blk.new2 w5 (.cells #[.string ⟨key.toArray⟩, .int .i64 0, .bool false, .bool false, .string ⟨#[]⟩, .int .i64 0, .string ⟨#[]⟩, .slice none 0 0, .slice none 0 0, .string ⟨other.toArray⟩, .int .i64 k, .bool b, .bool neg, .string ⟨dg.toArray⟩, .int .i64 ex, .string ⟨s.toArray⟩, .slice none 0 0, .slice none 0 0] 62) 52 #[.int .i64 5, .bool false, .bool false, .string ⟨#[]⟩, .int .i64 0, .string ⟨#[]⟩, .slice none 0 0, .slice (some ⟨w5.heap.size, 0, none⟩) 2 2])
  have HBC := Lib.hid (show Below w0.heap.size w0 ((w5.alloc (.cells #[.string ⟨key.toArray⟩, .int .i64 0, .bool false, .bool false, .string ⟨#[]⟩, .int .i64 0, .string ⟨#[]⟩, .slice none 0 0, .slice none 0 0, .string ⟨other.toArray⟩, .int .i64 k, .bool b, .bool neg, .string ⟨dg.toArray⟩, .int .i64 ex, .string ⟨s.toArray⟩, .slice none 0 0, .slice none 0 0] 62)).alloc (.cells #[.int .i64 5, .bool false, .bool false, .string ⟨#[]⟩, .int .i64 0, .string ⟨#[]⟩, .slice none 0 0, .slice (some ⟨w5.heap.size, 0, none⟩) 2 2] 52)) from (HBB.out.alloc HBB.out.size _).alloc (by have := HBB.out.size; simp; omega) _)
  go_upto_region 7 with (fail)
  generalize (w5.alloc (.cells #[.string ⟨key.toArray⟩, .int .i64 0, .bool false, .bool false, .string ⟨#[]⟩, .int .i64 0, .string ⟨#[]⟩, .slice none 0 0, .slice none 0 0, .string ⟨other.toArray⟩, .int .i64 k, .bool b, .bool neg, .string ⟨dg.toArray⟩, .int .i64 ex, .string ⟨s.toArray⟩, .slice none 0 0, .slice none 0 0] 62)).alloc (.cells #[.int .i64 5, .bool false, .bool false, .string ⟨#[]⟩, .int .i64 0, .string ⟨#[]⟩, .slice none 0 0, .slice (some ⟨w5.heap.size, 0, none⟩) 2 2] 52) = w6 at *
  have hlt56 : w5.heap.size + 1 < w6.heap.size := HM6.out.lt
  clear c0 c1 c2 c3 c4 c5 c6 c7 HV5 HAL5 HL5 HBB n0 n1 n2
  cases list with
  | false =>
    go_upto_region 10 with (fail)
    have HV := HV6
    have HL := HL6
    have HM := HM6
    have HAL := HAL6
    have HAM := HAM6
    have HBW := HBC
    have HBF := Lib.hid (HB1.out.trans (HBC.out.mono HB1.out.size))
    clear HV6 HL6 HM6 HAL6 HAM6 HBC HB1
    generalize w6 = W at *
    have HFIN := Lib.hid (show VThree W w0.heap.size (w4.heap.size + 1) (w5.heap.size + 1) (.int .i64 k) (.bool b) (.bool neg) (.string ⟨dg.toArray⟩) (.int .i64 ex) (.string ⟨s.toArray⟩) (.slice none 0 0) (.slice none 0 0) (.int .i64 4) (.bool false) (.bool false) (.string ⟨#[]⟩) (.int .i64 0) (.string ⟨#[]⟩) (.slice (some ⟨w4.heap.size, 0, none⟩) 2 2) (.slice none 0 0) (.int .i64 5) (.bool false) (.bool false) (.string ⟨#[]⟩) (.int .i64 0) (.string ⟨#[]⟩) (.slice none 0 0) (.slice (some ⟨w5.heap.size, 0, none⟩) 2 2) W from ⟨HV.out.at8, HL.out.at8, HM.out.at8, Below.refl _ _⟩)
    have HTW := Lib.hid (HT1.out.on HBW.out)
    have hiv : (Vl.mk k b ⟨neg, dg, ex⟩ s [] []).In W.cell? (.agg #[.int .i64 k, .bool b, .bool neg, .string ⟨dg.toArray⟩, .int .i64 ex, .string ⟨s.toArray⟩, .slice none 0 0, .slice none 0 0]) := leaf_in _ k b ⟨neg, dg, ex⟩ s
    have hil := two_in (g := w4.heap.size) (arr0_in W.cell? 0) (leaf_in W.cell? k b ⟨neg, dg, ex⟩ s) (HAL.out.cellsAt 0 _ (by intro j u hu; rcases j with _ | _ | _ | _ | _ | _ | _ | _ | j <;> first | exact hu | cases hu)) (HAL.out.cellsAt 8 _ (by intro j u hu; rcases j with _ | _ | _ | _ | _ | _ | _ | _ | j <;> first | exact hu | cases hu))
    have him := pairk_in (q := 5) (k := key) (k' := other) (g := w5.heap.size) (arr0_in W.cell? 0) (leaf_in W.cell? k b ⟨neg, dg, ex⟩ s) (HAM.out.cell 0) (HAM.out.cellsAt 1 _ (by intro j u hu; rcases j with _ | _ | _ | _ | _ | _ | _ | _ | j <;> first | exact hu | cases hu)) (HAM.out.cell 9) (HAM.out.cellsAt 10 _ (by intro j u hu; rcases j with _ | _ | _ | _ | _ | _ | _ | _ | j <;> first | exact hu | cases hu))
    obtain ⟨qv, hqv⟩ : ∃ q, (Vl.mk k b ⟨neg, dg, ex⟩ s [] []).may = q := ⟨_, rfl⟩
    obtain ⟨ql, hql⟩ : ∃ q, (Vl.mk 4 false Nm.Num.zero [] [Vl.mk 0 false Nm.Num.zero [] [] [], Vl.mk k b ⟨neg, dg, ex⟩ s [] []] []).may = q := ⟨_, rfl⟩
    obtain ⟨qm, hqm⟩ : ∃ q, (Vl.mk 5 false Nm.Num.zero [] [] [(key, Vl.mk 0 false Nm.Num.zero [] [] []), (other, Vl.mk k b ⟨neg, dg, ex⟩ s [] [])]).may = q := ⟨_, rfl⟩
    have HMv := Lib.hid (mays_on HTW.out (by simp [Vl.levels, levelsL, levelsM, levelsP]) (by simp [Vl.slim, slimL, slimM, slimP, Nm.Num.zero]; omega) hiv hqv)
    have HMl := Lib.hid (mays_on HTW.out (by simp [Vl.levels, levelsL, levelsM, levelsP]) (by simp [Vl.slim, slimL, slimM, slimP, Nm.Num.zero]; omega) hil hql)
    have HMm := Lib.hid (mays_on HTW.out (by simp [Vl.levels, levelsL, levelsM, levelsP]) (by simp [Vl.slim, slimL, slimM, slimP, Nm.Num.zero]; omega) him hqm)
    clear hiv hil him hqv hql hqm HV HL HM HAL HAM HT1 HTW
    refine wp_region_held_drew (S := VThree W w0.heap.size (w4.heap.size + 1) (w5.heap.size + 1) (.int .i64 k) (.bool b) (.bool neg) (.string ⟨dg.toArray⟩) (.int .i64 ex) (.string ⟨s.toArray⟩) (.slice none 0 0) (.slice none 0 0) (.int .i64 4) (.bool false) (.bool false) (.string ⟨#[]⟩) (.int .i64 0) (.string ⟨#[]⟩) (.slice (some ⟨w4.heap.size, 0, none⟩) 2 2) (.slice none 0 0) (.int .i64 5) (.bool false) (.bool false) (.string ⟨#[]⟩) (.int .i64 0) (.string ⟨#[]⟩) (.slice none 0 0) (.slice (some ⟨w5.heap.size, 0, none⟩) 2 2)) (by kernel_rfl) (VThree.on HFIN.out (Below.refl _ _).drew) (fun ht => ?_)
    refine wpAnyH_take (i := 0) (oi := ⟨some _, _, _, _, _, _⟩) (v := (.bool true)) rfl (by kernel_rfl) (by kernel_rfl) (by kernel_rfl) (fun _ _ _ h => h) (Or.inl ⟨by rfl, ?_⟩) ht ?_
    · intro W9 hSw
      obtain ⟨⟨c0, c1, c2, c3, c4, c5, c6, c7⟩, ⟨d0, d1, d2, d3, d4, d5, d6, d7⟩, ⟨e0, e1, e2, e3, e4, e5, e6, e7⟩, cb⟩ := hSw
      go_simp
    try simp only [Act.put, List.setIfInBounds_toArray, List.set_cons_zero, List.set_cons_succ]
    refine wpAnyH_take (i := 1) (oi := ⟨some _, _, _, _, _, _⟩) (v := (.bool true)) rfl (by kernel_rfl) (by kernel_rfl) (by kernel_rfl) (fun _ _ _ h => h) (Or.inl ⟨by rfl, ?_⟩) ht ?_
    · intro W9 hSw
      obtain ⟨⟨c0, c1, c2, c3, c4, c5, c6, c7⟩, ⟨d0, d1, d2, d3, d4, d5, d6, d7⟩, ⟨e0, e1, e2, e3, e4, e5, e6, e7⟩, cb⟩ := hSw
      go_simp
    try simp only [Act.put, List.setIfInBounds_toArray, List.set_cons_zero, List.set_cons_succ]
    refine wpAnyH_take (i := 2) (oi := ⟨some _, _, _, _, _, _⟩) (v := (.agg #[.int .i64 k, .bool b, .bool neg, .string ⟨dg.toArray⟩, .int .i64 ex, .string ⟨s.toArray⟩, .slice none 0 0, .slice none 0 0])) rfl (by kernel_rfl) (by kernel_rfl) (by kernel_rfl) (fun _ _ _ h => h) (Or.inl ⟨by rfl, ?_⟩) ht ?_
    · intro W9 hSw
      obtain ⟨⟨c0, c1, c2, c3, c4, c5, c6, c7⟩, ⟨d0, d1, d2, d3, d4, d5, d6, d7⟩, ⟨e0, e1, e2, e3, e4, e5, e6, e7⟩, cb⟩ := hSw
      go_simp
    try simp only [Act.put, List.setIfInBounds_toArray, List.set_cons_zero, List.set_cons_succ]
    refine wpAnyH_take (i := 4) (oi := ⟨some _, _, _, _, _, _⟩) (v := (.agg #[.int .i64 k, .bool b, .bool neg, .string ⟨dg.toArray⟩, .int .i64 ex, .string ⟨s.toArray⟩, .slice none 0 0, .slice none 0 0])) rfl (by kernel_rfl) (by kernel_rfl) (by kernel_rfl) (fun _ _ _ h => h) (Or.inl ⟨by rfl, ?_⟩) ht ?_
    · intro W9 hSw
      obtain ⟨⟨c0, c1, c2, c3, c4, c5, c6, c7⟩, ⟨d0, d1, d2, d3, d4, d5, d6, d7⟩, ⟨e0, e1, e2, e3, e4, e5, e6, e7⟩, cb⟩ := hSw
      go_simp
    try simp only [Act.put, List.setIfInBounds_toArray, List.set_cons_zero, List.set_cons_succ]
    refine wpAnyH_ready (rs := [3]) (by kernel_rfl) (by simp) ?_
    refine AllReadyH.cons (o := ⟨some _, _, _, _, _, _⟩) rfl (fun K hK => ?_) AllReadyH.nil
    go_simp
    refine (HMv.out.1 _ ht.2.2.2).mono ?_
    rintro e66 w66 ⟨rfl, hb66⟩
    have hs : VThree W w0.heap.size (w4.heap.size + 1) (w5.heap.size + 1) (.int .i64 k) (.bool b) (.bool neg) (.string ⟨dg.toArray⟩) (.int .i64 ex) (.string ⟨s.toArray⟩) (.slice none 0 0) (.slice none 0 0) (.int .i64 4) (.bool false) (.bool false) (.string ⟨#[]⟩) (.int .i64 0) (.string ⟨#[]⟩) (.slice (some ⟨w4.heap.size, 0, none⟩) 2 2) (.slice none 0 0) (.int .i64 5) (.bool false) (.bool false) (.string ⟨#[]⟩) (.int .i64 0) (.string ⟨#[]⟩) (.slice none 0 0) (.slice (some ⟨w5.heap.size, 0, none⟩) 2 2) w66 := VThree.on ht hb66
    clear hb66 ht
    go_wp2_with fail
    refine hK.out _ _ hs (fun ht => ?_)
    clear hK K hs
    try simp only [Act.put, List.setIfInBounds_toArray, List.set_cons_zero, List.set_cons_succ]
    refine wpAnyH_ready (rs := [5]) (by kernel_rfl) (by simp) ?_
    refine AllReadyH.cons (o := ⟨some _, _, _, _, _, _⟩) rfl (fun K hK => ?_) AllReadyH.nil
    go_simp
    refine (HMv.out.2 _ ht.2.2.2).mono ?_
    rintro e66 w66 ⟨rfl, hb66⟩
    have hs : VThree W w0.heap.size (w4.heap.size + 1) (w5.heap.size + 1) (.int .i64 k) (.bool b) (.bool neg) (.string ⟨dg.toArray⟩) (.int .i64 ex) (.string ⟨s.toArray⟩) (.slice none 0 0) (.slice none 0 0) (.int .i64 4) (.bool false) (.bool false) (.string ⟨#[]⟩) (.int .i64 0) (.string ⟨#[]⟩) (.slice (some ⟨w4.heap.size, 0, none⟩) 2 2) (.slice none 0 0) (.int .i64 5) (.bool false) (.bool false) (.string ⟨#[]⟩) (.int .i64 0) (.string ⟨#[]⟩) (.slice none 0 0) (.slice (some ⟨w5.heap.size, 0, none⟩) 2 2) w66 := VThree.on ht hb66
    clear hb66 ht
    go_wp2_with fail
    refine hK.out _ _ hs (fun ht => ?_)
    clear hK K hs
    try simp only [Act.put, List.setIfInBounds_toArray, List.set_cons_zero, List.set_cons_succ]
    refine wpAnyH_take (i := 6) (oi := ⟨some _, _, _, _, _, _⟩) (v := (.bool true)) rfl (by kernel_rfl) (by kernel_rfl) (by kernel_rfl) (fun _ _ _ h => h) (Or.inl ⟨by rfl, ?_⟩) ht ?_
    · intro W9 hSw
      obtain ⟨⟨c0, c1, c2, c3, c4, c5, c6, c7⟩, ⟨d0, d1, d2, d3, d4, d5, d6, d7⟩, ⟨e0, e1, e2, e3, e4, e5, e6, e7⟩, cb⟩ := hSw
      go_simp
    try simp only [Act.put, List.setIfInBounds_toArray, List.set_cons_zero, List.set_cons_succ]
    refine wpAnyH_take (i := 7) (oi := ⟨some _, _, _, _, _, _⟩) (v := (.bool true)) rfl (by kernel_rfl) (by kernel_rfl) (by kernel_rfl) (fun _ _ _ h => h) (Or.inl ⟨by rfl, ?_⟩) ht ?_
    · intro W9 hSw
      obtain ⟨⟨c0, c1, c2, c3, c4, c5, c6, c7⟩, ⟨d0, d1, d2, d3, d4, d5, d6, d7⟩, ⟨e0, e1, e2, e3, e4, e5, e6, e7⟩, cb⟩ := hSw
      go_simp
    try simp only [Act.put, List.setIfInBounds_toArray, List.set_cons_zero, List.set_cons_succ]
    refine wpAnyH_take (i := 8) (oi := ⟨some _, _, _, _, _, _⟩) (v := (.bool true)) rfl (by kernel_rfl) (by kernel_rfl) (by kernel_rfl) (fun _ _ _ h => h) (Or.inl ⟨by rfl, ?_⟩) ht ?_
    · intro W9 hSw
      obtain ⟨⟨c0, c1, c2, c3, c4, c5, c6, c7⟩, ⟨d0, d1, d2, d3, d4, d5, d6, d7⟩, ⟨e0, e1, e2, e3, e4, e5, e6, e7⟩, cb⟩ := hSw
      go_simp
    try simp only [Act.put, List.setIfInBounds_toArray, List.set_cons_zero, List.set_cons_succ]
    refine wpAnyH_take (i := 9) (oi := ⟨some _, _, _, _, _, _⟩) (v := (.agg #[.int .i64 4, .bool false, .bool false, .string ⟨#[]⟩, .int .i64 0, .string ⟨#[]⟩, .slice (some ⟨w4.heap.size, 0, none⟩) 2 2, .slice none 0 0])) rfl (by kernel_rfl) (by kernel_rfl) (by kernel_rfl) (fun _ _ _ h => h) (Or.inl ⟨by rfl, ?_⟩) ht ?_
    · intro W9 hSw
      obtain ⟨⟨c0, c1, c2, c3, c4, c5, c6, c7⟩, ⟨d0, d1, d2, d3, d4, d5, d6, d7⟩, ⟨e0, e1, e2, e3, e4, e5, e6, e7⟩, cb⟩ := hSw
      go_simp
    try simp only [Act.put, List.setIfInBounds_toArray, List.set_cons_zero, List.set_cons_succ]
    refine wpAnyH_take (i := 11) (oi := ⟨some _, _, _, _, _, _⟩) (v := (.agg #[.int .i64 4, .bool false, .bool false, .string ⟨#[]⟩, .int .i64 0, .string ⟨#[]⟩, .slice (some ⟨w4.heap.size, 0, none⟩) 2 2, .slice none 0 0])) rfl (by kernel_rfl) (by kernel_rfl) (by kernel_rfl) (fun _ _ _ h => h) (Or.inl ⟨by rfl, ?_⟩) ht ?_
    · intro W9 hSw
      obtain ⟨⟨c0, c1, c2, c3, c4, c5, c6, c7⟩, ⟨d0, d1, d2, d3, d4, d5, d6, d7⟩, ⟨e0, e1, e2, e3, e4, e5, e6, e7⟩, cb⟩ := hSw
      go_simp
    try simp only [Act.put, List.setIfInBounds_toArray, List.set_cons_zero, List.set_cons_succ]
    refine wpAnyH_ready (rs := [10]) (by kernel_rfl) (by simp) ?_
    refine AllReadyH.cons (o := ⟨some _, _, _, _, _, _⟩) rfl (fun K hK => ?_) AllReadyH.nil
    go_simp
    refine (HMl.out.1 _ ht.2.2.2).mono ?_
    rintro e66 w66 ⟨rfl, hb66⟩
    have hs : VThree W w0.heap.size (w4.heap.size + 1) (w5.heap.size + 1) (.int .i64 k) (.bool b) (.bool neg) (.string ⟨dg.toArray⟩) (.int .i64 ex) (.string ⟨s.toArray⟩) (.slice none 0 0) (.slice none 0 0) (.int .i64 4) (.bool false) (.bool false) (.string ⟨#[]⟩) (.int .i64 0) (.string ⟨#[]⟩) (.slice (some ⟨w4.heap.size, 0, none⟩) 2 2) (.slice none 0 0) (.int .i64 5) (.bool false) (.bool false) (.string ⟨#[]⟩) (.int .i64 0) (.string ⟨#[]⟩) (.slice none 0 0) (.slice (some ⟨w5.heap.size, 0, none⟩) 2 2) w66 := VThree.on ht hb66
    clear hb66 ht
    go_wp2_with fail
    refine hK.out _ _ hs (fun ht => ?_)
    clear hK K hs
    try simp only [Act.put, List.setIfInBounds_toArray, List.set_cons_zero, List.set_cons_succ]
    refine wpAnyH_ready (rs := [12]) (by kernel_rfl) (by simp) ?_
    refine AllReadyH.cons (o := ⟨some _, _, _, _, _, _⟩) rfl (fun K hK => ?_) AllReadyH.nil
    go_simp
    refine (HMl.out.2 _ ht.2.2.2).mono ?_
    rintro e66 w66 ⟨rfl, hb66⟩
    have hs : VThree W w0.heap.size (w4.heap.size + 1) (w5.heap.size + 1) (.int .i64 k) (.bool b) (.bool neg) (.string ⟨dg.toArray⟩) (.int .i64 ex) (.string ⟨s.toArray⟩) (.slice none 0 0) (.slice none 0 0) (.int .i64 4) (.bool false) (.bool false) (.string ⟨#[]⟩) (.int .i64 0) (.string ⟨#[]⟩) (.slice (some ⟨w4.heap.size, 0, none⟩) 2 2) (.slice none 0 0) (.int .i64 5) (.bool false) (.bool false) (.string ⟨#[]⟩) (.int .i64 0) (.string ⟨#[]⟩) (.slice none 0 0) (.slice (some ⟨w5.heap.size, 0, none⟩) 2 2) w66 := VThree.on ht hb66
    clear hb66 ht
    go_wp2_with fail
    refine hK.out _ _ hs (fun ht => ?_)
    clear hK K hs
    try simp only [Act.put, List.setIfInBounds_toArray, List.set_cons_zero, List.set_cons_succ]
    refine wpAnyH_take (i := 13) (oi := ⟨some _, _, _, _, _, _⟩) (v := (.bool true)) rfl (by kernel_rfl) (by kernel_rfl) (by kernel_rfl) (fun _ _ _ h => h) (Or.inl ⟨by rfl, ?_⟩) ht ?_
    · intro W9 hSw
      obtain ⟨⟨c0, c1, c2, c3, c4, c5, c6, c7⟩, ⟨d0, d1, d2, d3, d4, d5, d6, d7⟩, ⟨e0, e1, e2, e3, e4, e5, e6, e7⟩, cb⟩ := hSw
      go_simp
    try simp only [Act.put, List.setIfInBounds_toArray, List.set_cons_zero, List.set_cons_succ]
    refine wpAnyH_take (i := 14) (oi := ⟨some _, _, _, _, _, _⟩) (v := (.bool true)) rfl (by kernel_rfl) (by kernel_rfl) (by kernel_rfl) (fun _ _ _ h => h) (Or.inl ⟨by rfl, ?_⟩) ht ?_
    · intro W9 hSw
      obtain ⟨⟨c0, c1, c2, c3, c4, c5, c6, c7⟩, ⟨d0, d1, d2, d3, d4, d5, d6, d7⟩, ⟨e0, e1, e2, e3, e4, e5, e6, e7⟩, cb⟩ := hSw
      go_simp
    try simp only [Act.put, List.setIfInBounds_toArray, List.set_cons_zero, List.set_cons_succ]
    refine wpAnyH_take (i := 15) (oi := ⟨some _, _, _, _, _, _⟩) (v := (.bool true)) rfl (by kernel_rfl) (by kernel_rfl) (by kernel_rfl) (fun _ _ _ h => h) (Or.inl ⟨by rfl, ?_⟩) ht ?_
    · intro W9 hSw
      obtain ⟨⟨c0, c1, c2, c3, c4, c5, c6, c7⟩, ⟨d0, d1, d2, d3, d4, d5, d6, d7⟩, ⟨e0, e1, e2, e3, e4, e5, e6, e7⟩, cb⟩ := hSw
      go_simp
    try simp only [Act.put, List.setIfInBounds_toArray, List.set_cons_zero, List.set_cons_succ]
    refine wpAnyH_take (i := 16) (oi := ⟨some _, _, _, _, _, _⟩) (v := (.agg #[.int .i64 5, .bool false, .bool false, .string ⟨#[]⟩, .int .i64 0, .string ⟨#[]⟩, .slice none 0 0, .slice (some ⟨w5.heap.size, 0, none⟩) 2 2])) rfl (by kernel_rfl) (by kernel_rfl) (by kernel_rfl) (fun _ _ _ h => h) (Or.inl ⟨by rfl, ?_⟩) ht ?_
    · intro W9 hSw
      obtain ⟨⟨c0, c1, c2, c3, c4, c5, c6, c7⟩, ⟨d0, d1, d2, d3, d4, d5, d6, d7⟩, ⟨e0, e1, e2, e3, e4, e5, e6, e7⟩, cb⟩ := hSw
      go_simp
    try simp only [Act.put, List.setIfInBounds_toArray, List.set_cons_zero, List.set_cons_succ]
    refine wpAnyH_take (i := 18) (oi := ⟨some _, _, _, _, _, _⟩) (v := (.agg #[.int .i64 5, .bool false, .bool false, .string ⟨#[]⟩, .int .i64 0, .string ⟨#[]⟩, .slice none 0 0, .slice (some ⟨w5.heap.size, 0, none⟩) 2 2])) rfl (by kernel_rfl) (by kernel_rfl) (by kernel_rfl) (fun _ _ _ h => h) (Or.inl ⟨by rfl, ?_⟩) ht ?_
    · intro W9 hSw
      obtain ⟨⟨c0, c1, c2, c3, c4, c5, c6, c7⟩, ⟨d0, d1, d2, d3, d4, d5, d6, d7⟩, ⟨e0, e1, e2, e3, e4, e5, e6, e7⟩, cb⟩ := hSw
      go_simp
    try simp only [Act.put, List.setIfInBounds_toArray, List.set_cons_zero, List.set_cons_succ]
    refine wpAnyH_ready (rs := [17]) (by kernel_rfl) (by simp) ?_
    refine AllReadyH.cons (o := ⟨some _, _, _, _, _, _⟩) rfl (fun K hK => ?_) AllReadyH.nil
    go_simp
    refine (HMm.out.1 _ ht.2.2.2).mono ?_
    rintro e66 w66 ⟨rfl, hb66⟩
    have hs : VThree W w0.heap.size (w4.heap.size + 1) (w5.heap.size + 1) (.int .i64 k) (.bool b) (.bool neg) (.string ⟨dg.toArray⟩) (.int .i64 ex) (.string ⟨s.toArray⟩) (.slice none 0 0) (.slice none 0 0) (.int .i64 4) (.bool false) (.bool false) (.string ⟨#[]⟩) (.int .i64 0) (.string ⟨#[]⟩) (.slice (some ⟨w4.heap.size, 0, none⟩) 2 2) (.slice none 0 0) (.int .i64 5) (.bool false) (.bool false) (.string ⟨#[]⟩) (.int .i64 0) (.string ⟨#[]⟩) (.slice none 0 0) (.slice (some ⟨w5.heap.size, 0, none⟩) 2 2) w66 := VThree.on ht hb66
    clear hb66 ht
    go_wp2_with fail
    refine hK.out _ _ hs (fun ht => ?_)
    clear hK K hs
    try simp only [Act.put, List.setIfInBounds_toArray, List.set_cons_zero, List.set_cons_succ]
    refine wpAnyH_ready (rs := [19]) (by kernel_rfl) (by simp) ?_
    refine AllReadyH.cons (o := ⟨some _, _, _, _, _, _⟩) rfl (fun K hK => ?_) AllReadyH.nil
    go_simp
    refine (HMm.out.2 _ ht.2.2.2).mono ?_
    rintro e66 w66 ⟨rfl, hb66⟩
    have hs : VThree W w0.heap.size (w4.heap.size + 1) (w5.heap.size + 1) (.int .i64 k) (.bool b) (.bool neg) (.string ⟨dg.toArray⟩) (.int .i64 ex) (.string ⟨s.toArray⟩) (.slice none 0 0) (.slice none 0 0) (.int .i64 4) (.bool false) (.bool false) (.string ⟨#[]⟩) (.int .i64 0) (.string ⟨#[]⟩) (.slice (some ⟨w4.heap.size, 0, none⟩) 2 2) (.slice none 0 0) (.int .i64 5) (.bool false) (.bool false) (.string ⟨#[]⟩) (.int .i64 0) (.string ⟨#[]⟩) (.slice none 0 0) (.slice (some ⟨w5.heap.size, 0, none⟩) 2 2) w66 := VThree.on ht hb66
    clear hb66 ht
    go_wp2_with fail
    refine hK.out _ _ hs (fun ht => ?_)
    clear hK K hs
    try simp only [Act.put, List.setIfInBounds_toArray, List.set_cons_zero, List.set_cons_succ]
    refine wpAnyH_take (i := 20) (oi := ⟨some _, _, _, _, _, _⟩) (v := (.bool true)) rfl (by kernel_rfl) (by kernel_rfl) (by kernel_rfl) (fun _ _ _ h => h) (Or.inl ⟨by rfl, ?_⟩) ht ?_
    · intro W9 hSw
      obtain ⟨⟨c0, c1, c2, c3, c4, c5, c6, c7⟩, ⟨d0, d1, d2, d3, d4, d5, d6, d7⟩, ⟨e0, e1, e2, e3, e4, e5, e6, e7⟩, cb⟩ := hSw
      go_simp
    try simp only [Act.put, List.setIfInBounds_toArray, List.set_cons_zero, List.set_cons_succ]
    refine wpAnyH_take (i := 21) (oi := ⟨some _, _, _, _, _, _⟩) (v := (.bool true)) rfl (by kernel_rfl) (by kernel_rfl) (by kernel_rfl) (fun _ _ _ h => h) (Or.inl ⟨by rfl, ?_⟩) ht ?_
    · intro W9 hSw
      obtain ⟨⟨c0, c1, c2, c3, c4, c5, c6, c7⟩, ⟨d0, d1, d2, d3, d4, d5, d6, d7⟩, ⟨e0, e1, e2, e3, e4, e5, e6, e7⟩, cb⟩ := hSw
      go_simp
    try simp only [Act.put, List.setIfInBounds_toArray, List.set_cons_zero, List.set_cons_succ]
    refine wpAnyH_take (i := 22) (oi := ⟨some _, _, _, _, _, _⟩) (v := (.bool true)) rfl (by kernel_rfl) (by kernel_rfl) (by kernel_rfl) (fun _ _ _ h => h) (Or.inl ⟨by rfl, ?_⟩) ht ?_
    · intro W9 hSw
      obtain ⟨⟨c0, c1, c2, c3, c4, c5, c6, c7⟩, ⟨d0, d1, d2, d3, d4, d5, d6, d7⟩, ⟨e0, e1, e2, e3, e4, e5, e6, e7⟩, cb⟩ := hSw
      go_simp
    try simp only [Act.put, List.setIfInBounds_toArray, List.set_cons_zero, List.set_cons_succ]
    refine wpAnyH_done (by kernel_rfl) ?_ _
    have hbl := HBF.out.trans (ht.2.2.2.mono HBF.out.size)
    clear ht
    go_wp2
    go_ret
    exact ⟨rfl, hbl⟩
  | true =>
    have zf := (HV6.out.alloc (.cells #[.int .i64 0, .bool false, .bool false, .string ⟨#[]⟩, .int .i64 0, .string ⟨#[]⟩, .slice none 0 0, .slice none 0 0] 52)).frozen
    obtain ⟨c0, c1, c2, c3, c4, c5, c6, c7⟩ := (HV6.out.alloc (.cells #[.int .i64 0, .bool false, .bool false, .string ⟨#[]⟩, .int .i64 0, .string ⟨#[]⟩, .slice none 0 0, .slice none 0 0] 52)).eight
    have HV8 := Lib.hid (show Blk ((w6.alloc (.cells #[.int .i64 0, .bool false, .bool false, .string ⟨#[]⟩, .int .i64 0, .string ⟨#[]⟩, .slice none 0 0, .slice none 0 0] 52)).setCell ⟨w0.heap.size, 6, none⟩ (.slice (some ⟨w6.heap.size, 0, none⟩) 1 1)) w0.heap.size 52 #[.int .i64 k, .bool b, .bool neg, .string ⟨dg.toArray⟩, .int .i64 ex, .string ⟨s.toArray⟩, .slice (some ⟨w6.heap.size, 0, none⟩) 1 1, .slice none 0 0] from Blk.setL (l := [.int .i64 k, .bool b, .bool neg, .string ⟨dg.toArray⟩, .int .i64 ex, .string ⟨s.toArray⟩, .slice none 0 0, .slice none 0 0]) (HV6.out.alloc (.cells #[.int .i64 0, .bool false, .bool false, .string ⟨#[]⟩, .int .i64 0, .string ⟨#[]⟩, .slice none 0 0, .slice none 0 0] 52)) 6 _)
    have HAZ8 := Lib.hid (show Blk ((w6.alloc (.cells #[.int .i64 0, .bool false, .bool false, .string ⟨#[]⟩, .int .i64 0, .string ⟨#[]⟩, .slice none 0 0, .slice none 0 0] 52)).setCell ⟨w0.heap.size, 6, none⟩ (.slice (some ⟨w6.heap.size, 0, none⟩) 1 1)) w6.heap.size 52 #[.int .i64 0, .bool false, .bool false, .string ⟨#[]⟩, .int .i64 0, .string ⟨#[]⟩, .slice none 0 0, .slice none 0 0] from (Blk.new w6 52 #[.int .i64 0, .bool false, .bool false, .string ⟨#[]⟩, .int .i64 0, .string ⟨#[]⟩, .slice none 0 0, .slice none 0 0]).other (by show w6.heap.size ≠ w0.heap.size; omega) _)
    have HL8 := Lib.hid (show Blk ((w6.alloc (.cells #[.int .i64 0, .bool false, .bool false, .string ⟨#[]⟩, .int .i64 0, .string ⟨#[]⟩, .slice none 0 0, .slice none 0 0] 52)).setCell ⟨w0.heap.size, 6, none⟩ (.slice (some ⟨w6.heap.size, 0, none⟩) 1 1)) _ _ _ from (HL6.out.alloc (.cells #[.int .i64 0, .bool false, .bool false, .string ⟨#[]⟩, .int .i64 0, .string ⟨#[]⟩, .slice none 0 0, .slice none 0 0] 52)).other (by show w4.heap.size + 1 ≠ w0.heap.size; omega) _)
    have HM8 := Lib.hid (show Blk ((w6.alloc (.cells #[.int .i64 0, .bool false, .bool false, .string ⟨#[]⟩, .int .i64 0, .string ⟨#[]⟩, .slice none 0 0, .slice none 0 0] 52)).setCell ⟨w0.heap.size, 6, none⟩ (.slice (some ⟨w6.heap.size, 0, none⟩) 1 1)) _ _ _ from (HM6.out.alloc (.cells #[.int .i64 0, .bool false, .bool false, .string ⟨#[]⟩, .int .i64 0, .string ⟨#[]⟩, .slice none 0 0, .slice none 0 0] 52)).other (by show w5.heap.size + 1 ≠ w0.heap.size; omega) _)
    have HAL8 := Lib.hid (show Blk ((w6.alloc (.cells #[.int .i64 0, .bool false, .bool false, .string ⟨#[]⟩, .int .i64 0, .string ⟨#[]⟩, .slice none 0 0, .slice none 0 0] 52)).setCell ⟨w0.heap.size, 6, none⟩ (.slice (some ⟨w6.heap.size, 0, none⟩) 1 1)) _ _ _ from (HAL6.out.alloc (.cells #[.int .i64 0, .bool false, .bool false, .string ⟨#[]⟩, .int .i64 0, .string ⟨#[]⟩, .slice none 0 0, .slice none 0 0] 52)).other (by show w4.heap.size ≠ w0.heap.size; omega) _)
    have HAM8 := Lib.hid (show Blk ((w6.alloc (.cells #[.int .i64 0, .bool false, .bool false, .string ⟨#[]⟩, .int .i64 0, .string ⟨#[]⟩, .slice none 0 0, .slice none 0 0] 52)).setCell ⟨w0.heap.size, 6, none⟩ (.slice (some ⟨w6.heap.size, 0, none⟩) 1 1)) _ _ _ from (HAM6.out.alloc (.cells #[.int .i64 0, .bool false, .bool false, .string ⟨#[]⟩, .int .i64 0, .string ⟨#[]⟩, .slice none 0 0, .slice none 0 0] 52)).other (by show w5.heap.size ≠ w0.heap.size; omega) _)
    have HB8 := Lib.hid (show Below w0.heap.size w0 ((w6.alloc (.cells #[.int .i64 0, .bool false, .bool false, .string ⟨#[]⟩, .int .i64 0, .string ⟨#[]⟩, .slice none 0 0, .slice none 0 0] 52)).setCell ⟨w0.heap.size, 6, none⟩ (.slice (some ⟨w6.heap.size, 0, none⟩) 1 1)) from (HBC.out.alloc HBC.out.size _).setCell (Nat.le_refl _) _)
    go_upto_region 9 with (fail)
    clear zf c0 c1 c2 c3 c4 c5 c6 c7
    generalize (w6.alloc (.cells #[.int .i64 0, .bool false, .bool false, .string ⟨#[]⟩, .int .i64 0, .string ⟨#[]⟩, .slice none 0 0, .slice none 0 0] 52)).setCell ⟨w0.heap.size, 6, none⟩ (.slice (some ⟨w6.heap.size, 0, none⟩) 1 1) = w8 at *
    have mf := HM8.out.frozen
    obtain ⟨c0, c1, c2, c3, c4, c5, c6, c7⟩ := HM8.out.eight
    have hlt08 : w6.heap.size < w8.heap.size := HAZ8.out.lt
    have HM := Lib.hid (show Blk (w8.setCell ⟨w5.heap.size + 1, 0, none⟩ (.int .i64 k)) (w5.heap.size + 1) 52 #[.int .i64 k, .bool false, .bool false, .string ⟨#[]⟩, .int .i64 0, .string ⟨#[]⟩, .slice none 0 0, .slice (some ⟨w5.heap.size, 0, none⟩) 2 2] from Blk.setL (l := [.int .i64 5, .bool false, .bool false, .string ⟨#[]⟩, .int .i64 0, .string ⟨#[]⟩, .slice none 0 0, .slice (some ⟨w5.heap.size, 0, none⟩) 2 2]) HM8.out 0 _)
    have HV := Lib.hid (HV8.out.other (p := ⟨w5.heap.size + 1, 0, none⟩) (by show w0.heap.size ≠ w5.heap.size + 1; omega) (.int .i64 k))
    have HAZ := Lib.hid (HAZ8.out.other (p := ⟨w5.heap.size + 1, 0, none⟩) (by show w6.heap.size ≠ w5.heap.size + 1; omega) (.int .i64 k))
    have HL := Lib.hid (HL8.out.other (p := ⟨w5.heap.size + 1, 0, none⟩) (by show w4.heap.size + 1 ≠ w5.heap.size + 1; omega) (.int .i64 k))
    have HAL := Lib.hid (HAL8.out.other (p := ⟨w5.heap.size + 1, 0, none⟩) (by show w4.heap.size ≠ w5.heap.size + 1; omega) (.int .i64 k))
    have HAM := Lib.hid (HAM8.out.other (p := ⟨w5.heap.size + 1, 0, none⟩) (by show w5.heap.size ≠ w5.heap.size + 1; omega) (.int .i64 k))
    have HBW := Lib.hid (HB8.out.setCell (p := ⟨w5.heap.size + 1, 0, none⟩) (by show w0.heap.size ≤ w5.heap.size + 1; omega) (.int .i64 k))
    have HBF := Lib.hid (HB1.out.trans (HBW.out.mono HB1.out.size))
    clear HV6 HL6 HM6 HAL6 HAM6 HBC HB1 HV8 HAZ8 HL8 HM8 HAL8 HAM8 HB8
    go_upto_region 10 with (fail)
    clear mf c0 c1 c2 c3 c4 c5 c6 c7
    generalize w8.setCell ⟨w5.heap.size + 1, 0, none⟩ (.int .i64 k) = W at *
    have HFIN := Lib.hid (show VThree W w0.heap.size (w4.heap.size + 1) (w5.heap.size + 1) (.int .i64 k) (.bool b) (.bool neg) (.string ⟨dg.toArray⟩) (.int .i64 ex) (.string ⟨s.toArray⟩) (.slice (some ⟨w6.heap.size, 0, none⟩) 1 1) (.slice none 0 0) (.int .i64 4) (.bool false) (.bool false) (.string ⟨#[]⟩) (.int .i64 0) (.string ⟨#[]⟩) (.slice (some ⟨w4.heap.size, 0, none⟩) 2 2) (.slice none 0 0) (.int .i64 k) (.bool false) (.bool false) (.string ⟨#[]⟩) (.int .i64 0) (.string ⟨#[]⟩) (.slice none 0 0) (.slice (some ⟨w5.heap.size, 0, none⟩) 2 2) W from ⟨HV.out.at8, HL.out.at8, HM.out.at8, Below.refl _ _⟩)
    have HTW := Lib.hid (HT1.out.on HBW.out)
    have hiv : (Vl.mk k b ⟨neg, dg, ex⟩ s [Vl.mk 0 false Nm.Num.zero [] [] []] []).In W.cell? (.agg #[.int .i64 k, .bool b, .bool neg, .string ⟨dg.toArray⟩, .int .i64 ex, .string ⟨s.toArray⟩, .slice (some ⟨w6.heap.size, 0, none⟩) 1 1, .slice none 0 0]) := one_in (g := w6.heap.size) (n := ⟨neg, dg, ex⟩) (arr0_in W.cell? 0) (HAZ.out.cellsAt 0 _ (by intro j u hu; rcases j with _ | _ | _ | _ | _ | _ | _ | _ | j <;> first | exact hu | cases hu))
    have hil := two_in (g := w4.heap.size) (arr0_in W.cell? 0) (leaf_in W.cell? k b ⟨neg, dg, ex⟩ s) (HAL.out.cellsAt 0 _ (by intro j u hu; rcases j with _ | _ | _ | _ | _ | _ | _ | _ | j <;> first | exact hu | cases hu)) (HAL.out.cellsAt 8 _ (by intro j u hu; rcases j with _ | _ | _ | _ | _ | _ | _ | _ | j <;> first | exact hu | cases hu))
    have him := pairk_in (q := k) (k := key) (k' := other) (g := w5.heap.size) (arr0_in W.cell? 0) (leaf_in W.cell? k b ⟨neg, dg, ex⟩ s) (HAM.out.cell 0) (HAM.out.cellsAt 1 _ (by intro j u hu; rcases j with _ | _ | _ | _ | _ | _ | _ | _ | j <;> first | exact hu | cases hu)) (HAM.out.cell 9) (HAM.out.cellsAt 10 _ (by intro j u hu; rcases j with _ | _ | _ | _ | _ | _ | _ | _ | j <;> first | exact hu | cases hu))
    obtain ⟨qv, hqv⟩ : ∃ q, (Vl.mk k b ⟨neg, dg, ex⟩ s [Vl.mk 0 false Nm.Num.zero [] [] []] []).may = q := ⟨_, rfl⟩
    obtain ⟨ql, hql⟩ : ∃ q, (Vl.mk 4 false Nm.Num.zero [] [Vl.mk 0 false Nm.Num.zero [] [] [], Vl.mk k b ⟨neg, dg, ex⟩ s [] []] []).may = q := ⟨_, rfl⟩
    obtain ⟨qm, hqm⟩ : ∃ q, (Vl.mk k false Nm.Num.zero [] [] [(key, Vl.mk 0 false Nm.Num.zero [] [] []), (other, Vl.mk k b ⟨neg, dg, ex⟩ s [] [])]).may = q := ⟨_, rfl⟩
    have HMv := Lib.hid (mays_on HTW.out (by simp [Vl.levels, levelsL, levelsM, levelsP]) (by simp [Vl.slim, slimL, slimM, slimP, Nm.Num.zero]; omega) hiv hqv)
    have HMl := Lib.hid (mays_on HTW.out (by simp [Vl.levels, levelsL, levelsM, levelsP]) (by simp [Vl.slim, slimL, slimM, slimP, Nm.Num.zero]; omega) hil hql)
    have HMm := Lib.hid (mays_on HTW.out (by simp [Vl.levels, levelsL, levelsM, levelsP]) (by simp [Vl.slim, slimL, slimM, slimP, Nm.Num.zero]; omega) him hqm)
    clear hiv hil him hqv hql hqm HV HL HM HAL HAM HT1 HTW
    clear HAZ
    refine wp_region_held_drew (S := VThree W w0.heap.size (w4.heap.size + 1) (w5.heap.size + 1) (.int .i64 k) (.bool b) (.bool neg) (.string ⟨dg.toArray⟩) (.int .i64 ex) (.string ⟨s.toArray⟩) (.slice (some ⟨w6.heap.size, 0, none⟩) 1 1) (.slice none 0 0) (.int .i64 4) (.bool false) (.bool false) (.string ⟨#[]⟩) (.int .i64 0) (.string ⟨#[]⟩) (.slice (some ⟨w4.heap.size, 0, none⟩) 2 2) (.slice none 0 0) (.int .i64 k) (.bool false) (.bool false) (.string ⟨#[]⟩) (.int .i64 0) (.string ⟨#[]⟩) (.slice none 0 0) (.slice (some ⟨w5.heap.size, 0, none⟩) 2 2)) (by kernel_rfl) (VThree.on HFIN.out (Below.refl _ _).drew) (fun ht => ?_)
    refine wpAnyH_take (i := 0) (oi := ⟨some _, _, _, _, _, _⟩) (v := (.bool true)) rfl (by kernel_rfl) (by kernel_rfl) (by kernel_rfl) (fun _ _ _ h => h) (Or.inl ⟨by rfl, ?_⟩) ht ?_
    · intro W9 hSw
      obtain ⟨⟨c0, c1, c2, c3, c4, c5, c6, c7⟩, ⟨d0, d1, d2, d3, d4, d5, d6, d7⟩, ⟨e0, e1, e2, e3, e4, e5, e6, e7⟩, cb⟩ := hSw
      go_simp
    try simp only [Act.put, List.setIfInBounds_toArray, List.set_cons_zero, List.set_cons_succ]
    refine wpAnyH_take (i := 1) (oi := ⟨some _, _, _, _, _, _⟩) (v := (.bool true)) rfl (by kernel_rfl) (by kernel_rfl) (by kernel_rfl) (fun _ _ _ h => h) (Or.inl ⟨by rfl, ?_⟩) ht ?_
    · intro W9 hSw
      obtain ⟨⟨c0, c1, c2, c3, c4, c5, c6, c7⟩, ⟨d0, d1, d2, d3, d4, d5, d6, d7⟩, ⟨e0, e1, e2, e3, e4, e5, e6, e7⟩, cb⟩ := hSw
      go_simp
    try simp only [Act.put, List.setIfInBounds_toArray, List.set_cons_zero, List.set_cons_succ]
    refine wpAnyH_take (i := 2) (oi := ⟨some _, _, _, _, _, _⟩) (v := (.agg #[.int .i64 k, .bool b, .bool neg, .string ⟨dg.toArray⟩, .int .i64 ex, .string ⟨s.toArray⟩, .slice (some ⟨w6.heap.size, 0, none⟩) 1 1, .slice none 0 0])) rfl (by kernel_rfl) (by kernel_rfl) (by kernel_rfl) (fun _ _ _ h => h) (Or.inl ⟨by rfl, ?_⟩) ht ?_
    · intro W9 hSw
      obtain ⟨⟨c0, c1, c2, c3, c4, c5, c6, c7⟩, ⟨d0, d1, d2, d3, d4, d5, d6, d7⟩, ⟨e0, e1, e2, e3, e4, e5, e6, e7⟩, cb⟩ := hSw
      go_simp
    try simp only [Act.put, List.setIfInBounds_toArray, List.set_cons_zero, List.set_cons_succ]
    refine wpAnyH_take (i := 4) (oi := ⟨some _, _, _, _, _, _⟩) (v := (.agg #[.int .i64 k, .bool b, .bool neg, .string ⟨dg.toArray⟩, .int .i64 ex, .string ⟨s.toArray⟩, .slice (some ⟨w6.heap.size, 0, none⟩) 1 1, .slice none 0 0])) rfl (by kernel_rfl) (by kernel_rfl) (by kernel_rfl) (fun _ _ _ h => h) (Or.inl ⟨by rfl, ?_⟩) ht ?_
    · intro W9 hSw
      obtain ⟨⟨c0, c1, c2, c3, c4, c5, c6, c7⟩, ⟨d0, d1, d2, d3, d4, d5, d6, d7⟩, ⟨e0, e1, e2, e3, e4, e5, e6, e7⟩, cb⟩ := hSw
      go_simp
    try simp only [Act.put, List.setIfInBounds_toArray, List.set_cons_zero, List.set_cons_succ]
    refine wpAnyH_ready (rs := [3]) (by kernel_rfl) (by simp) ?_
    refine AllReadyH.cons (o := ⟨some _, _, _, _, _, _⟩) rfl (fun K hK => ?_) AllReadyH.nil
    go_simp
    refine (HMv.out.1 _ ht.2.2.2).mono ?_
    rintro e66 w66 ⟨rfl, hb66⟩
    have hs : VThree W w0.heap.size (w4.heap.size + 1) (w5.heap.size + 1) (.int .i64 k) (.bool b) (.bool neg) (.string ⟨dg.toArray⟩) (.int .i64 ex) (.string ⟨s.toArray⟩) (.slice (some ⟨w6.heap.size, 0, none⟩) 1 1) (.slice none 0 0) (.int .i64 4) (.bool false) (.bool false) (.string ⟨#[]⟩) (.int .i64 0) (.string ⟨#[]⟩) (.slice (some ⟨w4.heap.size, 0, none⟩) 2 2) (.slice none 0 0) (.int .i64 k) (.bool false) (.bool false) (.string ⟨#[]⟩) (.int .i64 0) (.string ⟨#[]⟩) (.slice none 0 0) (.slice (some ⟨w5.heap.size, 0, none⟩) 2 2) w66 := VThree.on ht hb66
    clear hb66 ht
    go_wp2_with fail
    refine hK.out _ _ hs (fun ht => ?_)
    clear hK K hs
    try simp only [Act.put, List.setIfInBounds_toArray, List.set_cons_zero, List.set_cons_succ]
    refine wpAnyH_ready (rs := [5]) (by kernel_rfl) (by simp) ?_
    refine AllReadyH.cons (o := ⟨some _, _, _, _, _, _⟩) rfl (fun K hK => ?_) AllReadyH.nil
    go_simp
    refine (HMv.out.2 _ ht.2.2.2).mono ?_
    rintro e66 w66 ⟨rfl, hb66⟩
    have hs : VThree W w0.heap.size (w4.heap.size + 1) (w5.heap.size + 1) (.int .i64 k) (.bool b) (.bool neg) (.string ⟨dg.toArray⟩) (.int .i64 ex) (.string ⟨s.toArray⟩) (.slice (some ⟨w6.heap.size, 0, none⟩) 1 1) (.slice none 0 0) (.int .i64 4) (.bool false) (.bool false) (.string ⟨#[]⟩) (.int .i64 0) (.string ⟨#[]⟩) (.slice (some ⟨w4.heap.size, 0, none⟩) 2 2) (.slice none 0 0) (.int .i64 k) (.bool false) (.bool false) (.string ⟨#[]⟩) (.int .i64 0) (.string ⟨#[]⟩) (.slice none 0 0) (.slice (some ⟨w5.heap.size, 0, none⟩) 2 2) w66 := VThree.on ht hb66
    clear hb66 ht
    go_wp2_with fail
    refine hK.out _ _ hs (fun ht => ?_)
    clear hK K hs
    try simp only [Act.put, List.setIfInBounds_toArray, List.set_cons_zero, List.set_cons_succ]
    refine wpAnyH_take (i := 6) (oi := ⟨some _, _, _, _, _, _⟩) (v := (.bool true)) rfl (by kernel_rfl) (by kernel_rfl) (by kernel_rfl) (fun _ _ _ h => h) (Or.inl ⟨by rfl, ?_⟩) ht ?_
    · intro W9 hSw
      obtain ⟨⟨c0, c1, c2, c3, c4, c5, c6, c7⟩, ⟨d0, d1, d2, d3, d4, d5, d6, d7⟩, ⟨e0, e1, e2, e3, e4, e5, e6, e7⟩, cb⟩ := hSw
      go_simp
    try simp only [Act.put, List.setIfInBounds_toArray, List.set_cons_zero, List.set_cons_succ]
    refine wpAnyH_take (i := 7) (oi := ⟨some _, _, _, _, _, _⟩) (v := (.bool true)) rfl (by kernel_rfl) (by kernel_rfl) (by kernel_rfl) (fun _ _ _ h => h) (Or.inl ⟨by rfl, ?_⟩) ht ?_
    · intro W9 hSw
      obtain ⟨⟨c0, c1, c2, c3, c4, c5, c6, c7⟩, ⟨d0, d1, d2, d3, d4, d5, d6, d7⟩, ⟨e0, e1, e2, e3, e4, e5, e6, e7⟩, cb⟩ := hSw
      go_simp
    try simp only [Act.put, List.setIfInBounds_toArray, List.set_cons_zero, List.set_cons_succ]
    refine wpAnyH_take (i := 8) (oi := ⟨some _, _, _, _, _, _⟩) (v := (.bool true)) rfl (by kernel_rfl) (by kernel_rfl) (by kernel_rfl) (fun _ _ _ h => h) (Or.inl ⟨by rfl, ?_⟩) ht ?_
    · intro W9 hSw
      obtain ⟨⟨c0, c1, c2, c3, c4, c5, c6, c7⟩, ⟨d0, d1, d2, d3, d4, d5, d6, d7⟩, ⟨e0, e1, e2, e3, e4, e5, e6, e7⟩, cb⟩ := hSw
      go_simp
    try simp only [Act.put, List.setIfInBounds_toArray, List.set_cons_zero, List.set_cons_succ]
    refine wpAnyH_take (i := 9) (oi := ⟨some _, _, _, _, _, _⟩) (v := (.agg #[.int .i64 4, .bool false, .bool false, .string ⟨#[]⟩, .int .i64 0, .string ⟨#[]⟩, .slice (some ⟨w4.heap.size, 0, none⟩) 2 2, .slice none 0 0])) rfl (by kernel_rfl) (by kernel_rfl) (by kernel_rfl) (fun _ _ _ h => h) (Or.inl ⟨by rfl, ?_⟩) ht ?_
    · intro W9 hSw
      obtain ⟨⟨c0, c1, c2, c3, c4, c5, c6, c7⟩, ⟨d0, d1, d2, d3, d4, d5, d6, d7⟩, ⟨e0, e1, e2, e3, e4, e5, e6, e7⟩, cb⟩ := hSw
      go_simp
    try simp only [Act.put, List.setIfInBounds_toArray, List.set_cons_zero, List.set_cons_succ]
    refine wpAnyH_take (i := 11) (oi := ⟨some _, _, _, _, _, _⟩) (v := (.agg #[.int .i64 4, .bool false, .bool false, .string ⟨#[]⟩, .int .i64 0, .string ⟨#[]⟩, .slice (some ⟨w4.heap.size, 0, none⟩) 2 2, .slice none 0 0])) rfl (by kernel_rfl) (by kernel_rfl) (by kernel_rfl) (fun _ _ _ h => h) (Or.inl ⟨by rfl, ?_⟩) ht ?_
    · intro W9 hSw
      obtain ⟨⟨c0, c1, c2, c3, c4, c5, c6, c7⟩, ⟨d0, d1, d2, d3, d4, d5, d6, d7⟩, ⟨e0, e1, e2, e3, e4, e5, e6, e7⟩, cb⟩ := hSw
      go_simp
    try simp only [Act.put, List.setIfInBounds_toArray, List.set_cons_zero, List.set_cons_succ]
    refine wpAnyH_ready (rs := [10]) (by kernel_rfl) (by simp) ?_
    refine AllReadyH.cons (o := ⟨some _, _, _, _, _, _⟩) rfl (fun K hK => ?_) AllReadyH.nil
    go_simp
    refine (HMl.out.1 _ ht.2.2.2).mono ?_
    rintro e66 w66 ⟨rfl, hb66⟩
    have hs : VThree W w0.heap.size (w4.heap.size + 1) (w5.heap.size + 1) (.int .i64 k) (.bool b) (.bool neg) (.string ⟨dg.toArray⟩) (.int .i64 ex) (.string ⟨s.toArray⟩) (.slice (some ⟨w6.heap.size, 0, none⟩) 1 1) (.slice none 0 0) (.int .i64 4) (.bool false) (.bool false) (.string ⟨#[]⟩) (.int .i64 0) (.string ⟨#[]⟩) (.slice (some ⟨w4.heap.size, 0, none⟩) 2 2) (.slice none 0 0) (.int .i64 k) (.bool false) (.bool false) (.string ⟨#[]⟩) (.int .i64 0) (.string ⟨#[]⟩) (.slice none 0 0) (.slice (some ⟨w5.heap.size, 0, none⟩) 2 2) w66 := VThree.on ht hb66
    clear hb66 ht
    go_wp2_with fail
    refine hK.out _ _ hs (fun ht => ?_)
    clear hK K hs
    try simp only [Act.put, List.setIfInBounds_toArray, List.set_cons_zero, List.set_cons_succ]
    refine wpAnyH_ready (rs := [12]) (by kernel_rfl) (by simp) ?_
    refine AllReadyH.cons (o := ⟨some _, _, _, _, _, _⟩) rfl (fun K hK => ?_) AllReadyH.nil
    go_simp
    refine (HMl.out.2 _ ht.2.2.2).mono ?_
    rintro e66 w66 ⟨rfl, hb66⟩
    have hs : VThree W w0.heap.size (w4.heap.size + 1) (w5.heap.size + 1) (.int .i64 k) (.bool b) (.bool neg) (.string ⟨dg.toArray⟩) (.int .i64 ex) (.string ⟨s.toArray⟩) (.slice (some ⟨w6.heap.size, 0, none⟩) 1 1) (.slice none 0 0) (.int .i64 4) (.bool false) (.bool false) (.string ⟨#[]⟩) (.int .i64 0) (.string ⟨#[]⟩) (.slice (some ⟨w4.heap.size, 0, none⟩) 2 2) (.slice none 0 0) (.int .i64 k) (.bool false) (.bool false) (.string ⟨#[]⟩) (.int .i64 0) (.string ⟨#[]⟩) (.slice none 0 0) (.slice (some ⟨w5.heap.size, 0, none⟩) 2 2) w66 := VThree.on ht hb66
    clear hb66 ht
    go_wp2_with fail
    refine hK.out _ _ hs (fun ht => ?_)
    clear hK K hs
    try simp only [Act.put, List.setIfInBounds_toArray, List.set_cons_zero, List.set_cons_succ]
    refine wpAnyH_take (i := 13) (oi := ⟨some _, _, _, _, _, _⟩) (v := (.bool true)) rfl (by kernel_rfl) (by kernel_rfl) (by kernel_rfl) (fun _ _ _ h => h) (Or.inl ⟨by rfl, ?_⟩) ht ?_
    · intro W9 hSw
      obtain ⟨⟨c0, c1, c2, c3, c4, c5, c6, c7⟩, ⟨d0, d1, d2, d3, d4, d5, d6, d7⟩, ⟨e0, e1, e2, e3, e4, e5, e6, e7⟩, cb⟩ := hSw
      go_simp
    try simp only [Act.put, List.setIfInBounds_toArray, List.set_cons_zero, List.set_cons_succ]
    refine wpAnyH_take (i := 14) (oi := ⟨some _, _, _, _, _, _⟩) (v := (.bool true)) rfl (by kernel_rfl) (by kernel_rfl) (by kernel_rfl) (fun _ _ _ h => h) (Or.inl ⟨by rfl, ?_⟩) ht ?_
    · intro W9 hSw
      obtain ⟨⟨c0, c1, c2, c3, c4, c5, c6, c7⟩, ⟨d0, d1, d2, d3, d4, d5, d6, d7⟩, ⟨e0, e1, e2, e3, e4, e5, e6, e7⟩, cb⟩ := hSw
      go_simp
    try simp only [Act.put, List.setIfInBounds_toArray, List.set_cons_zero, List.set_cons_succ]
    refine wpAnyH_take (i := 15) (oi := ⟨some _, _, _, _, _, _⟩) (v := (.bool true)) rfl (by kernel_rfl) (by kernel_rfl) (by kernel_rfl) (fun _ _ _ h => h) (Or.inl ⟨by rfl, ?_⟩) ht ?_
    · intro W9 hSw
      obtain ⟨⟨c0, c1, c2, c3, c4, c5, c6, c7⟩, ⟨d0, d1, d2, d3, d4, d5, d6, d7⟩, ⟨e0, e1, e2, e3, e4, e5, e6, e7⟩, cb⟩ := hSw
      go_simp
    try simp only [Act.put, List.setIfInBounds_toArray, List.set_cons_zero, List.set_cons_succ]
    refine wpAnyH_take (i := 16) (oi := ⟨some _, _, _, _, _, _⟩) (v := (.agg #[.int .i64 k, .bool false, .bool false, .string ⟨#[]⟩, .int .i64 0, .string ⟨#[]⟩, .slice none 0 0, .slice (some ⟨w5.heap.size, 0, none⟩) 2 2])) rfl (by kernel_rfl) (by kernel_rfl) (by kernel_rfl) (fun _ _ _ h => h) (Or.inl ⟨by rfl, ?_⟩) ht ?_
    · intro W9 hSw
      obtain ⟨⟨c0, c1, c2, c3, c4, c5, c6, c7⟩, ⟨d0, d1, d2, d3, d4, d5, d6, d7⟩, ⟨e0, e1, e2, e3, e4, e5, e6, e7⟩, cb⟩ := hSw
      go_simp
    try simp only [Act.put, List.setIfInBounds_toArray, List.set_cons_zero, List.set_cons_succ]
    refine wpAnyH_take (i := 18) (oi := ⟨some _, _, _, _, _, _⟩) (v := (.agg #[.int .i64 k, .bool false, .bool false, .string ⟨#[]⟩, .int .i64 0, .string ⟨#[]⟩, .slice none 0 0, .slice (some ⟨w5.heap.size, 0, none⟩) 2 2])) rfl (by kernel_rfl) (by kernel_rfl) (by kernel_rfl) (fun _ _ _ h => h) (Or.inl ⟨by rfl, ?_⟩) ht ?_
    · intro W9 hSw
      obtain ⟨⟨c0, c1, c2, c3, c4, c5, c6, c7⟩, ⟨d0, d1, d2, d3, d4, d5, d6, d7⟩, ⟨e0, e1, e2, e3, e4, e5, e6, e7⟩, cb⟩ := hSw
      go_simp
    try simp only [Act.put, List.setIfInBounds_toArray, List.set_cons_zero, List.set_cons_succ]
    refine wpAnyH_ready (rs := [17]) (by kernel_rfl) (by simp) ?_
    refine AllReadyH.cons (o := ⟨some _, _, _, _, _, _⟩) rfl (fun K hK => ?_) AllReadyH.nil
    go_simp
    refine (HMm.out.1 _ ht.2.2.2).mono ?_
    rintro e66 w66 ⟨rfl, hb66⟩
    have hs : VThree W w0.heap.size (w4.heap.size + 1) (w5.heap.size + 1) (.int .i64 k) (.bool b) (.bool neg) (.string ⟨dg.toArray⟩) (.int .i64 ex) (.string ⟨s.toArray⟩) (.slice (some ⟨w6.heap.size, 0, none⟩) 1 1) (.slice none 0 0) (.int .i64 4) (.bool false) (.bool false) (.string ⟨#[]⟩) (.int .i64 0) (.string ⟨#[]⟩) (.slice (some ⟨w4.heap.size, 0, none⟩) 2 2) (.slice none 0 0) (.int .i64 k) (.bool false) (.bool false) (.string ⟨#[]⟩) (.int .i64 0) (.string ⟨#[]⟩) (.slice none 0 0) (.slice (some ⟨w5.heap.size, 0, none⟩) 2 2) w66 := VThree.on ht hb66
    clear hb66 ht
    go_wp2_with fail
    refine hK.out _ _ hs (fun ht => ?_)
    clear hK K hs
    try simp only [Act.put, List.setIfInBounds_toArray, List.set_cons_zero, List.set_cons_succ]
    refine wpAnyH_ready (rs := [19]) (by kernel_rfl) (by simp) ?_
    refine AllReadyH.cons (o := ⟨some _, _, _, _, _, _⟩) rfl (fun K hK => ?_) AllReadyH.nil
    go_simp
    refine (HMm.out.2 _ ht.2.2.2).mono ?_
    rintro e66 w66 ⟨rfl, hb66⟩
    have hs : VThree W w0.heap.size (w4.heap.size + 1) (w5.heap.size + 1) (.int .i64 k) (.bool b) (.bool neg) (.string ⟨dg.toArray⟩) (.int .i64 ex) (.string ⟨s.toArray⟩) (.slice (some ⟨w6.heap.size, 0, none⟩) 1 1) (.slice none 0 0) (.int .i64 4) (.bool false) (.bool false) (.string ⟨#[]⟩) (.int .i64 0) (.string ⟨#[]⟩) (.slice (some ⟨w4.heap.size, 0, none⟩) 2 2) (.slice none 0 0) (.int .i64 k) (.bool false) (.bool false) (.string ⟨#[]⟩) (.int .i64 0) (.string ⟨#[]⟩) (.slice none 0 0) (.slice (some ⟨w5.heap.size, 0, none⟩) 2 2) w66 := VThree.on ht hb66
    clear hb66 ht
    go_wp2_with fail
    refine hK.out _ _ hs (fun ht => ?_)
    clear hK K hs
    try simp only [Act.put, List.setIfInBounds_toArray, List.set_cons_zero, List.set_cons_succ]
    refine wpAnyH_take (i := 20) (oi := ⟨some _, _, _, _, _, _⟩) (v := (.bool true)) rfl (by kernel_rfl) (by kernel_rfl) (by kernel_rfl) (fun _ _ _ h => h) (Or.inl ⟨by rfl, ?_⟩) ht ?_
    · intro W9 hSw
      obtain ⟨⟨c0, c1, c2, c3, c4, c5, c6, c7⟩, ⟨d0, d1, d2, d3, d4, d5, d6, d7⟩, ⟨e0, e1, e2, e3, e4, e5, e6, e7⟩, cb⟩ := hSw
      go_simp
    try simp only [Act.put, List.setIfInBounds_toArray, List.set_cons_zero, List.set_cons_succ]
    refine wpAnyH_take (i := 21) (oi := ⟨some _, _, _, _, _, _⟩) (v := (.bool true)) rfl (by kernel_rfl) (by kernel_rfl) (by kernel_rfl) (fun _ _ _ h => h) (Or.inl ⟨by rfl, ?_⟩) ht ?_
    · intro W9 hSw
      obtain ⟨⟨c0, c1, c2, c3, c4, c5, c6, c7⟩, ⟨d0, d1, d2, d3, d4, d5, d6, d7⟩, ⟨e0, e1, e2, e3, e4, e5, e6, e7⟩, cb⟩ := hSw
      go_simp
    try simp only [Act.put, List.setIfInBounds_toArray, List.set_cons_zero, List.set_cons_succ]
    refine wpAnyH_take (i := 22) (oi := ⟨some _, _, _, _, _, _⟩) (v := (.bool true)) rfl (by kernel_rfl) (by kernel_rfl) (by kernel_rfl) (fun _ _ _ h => h) (Or.inl ⟨by rfl, ?_⟩) ht ?_
    · intro W9 hSw
      obtain ⟨⟨c0, c1, c2, c3, c4, c5, c6, c7⟩, ⟨d0, d1, d2, d3, d4, d5, d6, d7⟩, ⟨e0, e1, e2, e3, e4, e5, e6, e7⟩, cb⟩ := hSw
      go_simp
    try simp only [Act.put, List.setIfInBounds_toArray, List.set_cons_zero, List.set_cons_succ]
    refine wpAnyH_done (by kernel_rfl) ?_ _
    have hbl := HBF.out.trans (ht.2.2.2.mono HBF.out.size)
    clear ht
    go_wp2
    go_ret
    exact ⟨rfl, hbl⟩

end Go.Proofs.YtfconmjgedaifaaDoor
