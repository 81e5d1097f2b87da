/- The laws of layer 5 (show): up. -/
import Derived.Test.YtnnklbfpgmndoaaDoorOa
import Derived.Test.YtnnklbfpgmndoaaDoorMt
import Derived.Test.YtnnklbfpgmndoaaDoorMr
import Derived.KernelRfl
namespace Go.Proofs.YtnnklbfpgmndoaaDoor.Ps
open Js

theorem ex_show : parse [123, 34, 98, 34, 58, 49, 46, 48, 44, 32, 34, 97, 34, 58, 91, 93, 125] = .ok (mkO [([97], mkA []), ([98], mkD ⟨false, [49], 0⟩)]) [] := by
  kernel_rfl
theorem ex_shown : (mkO [([97], mkA []), ([98], mkD ⟨false, [49], 0⟩)]).shown = [123, 34, 97, 34, 58, 91, 93, 44, 34, 98, 34, 58, 49, 125] := by
  kernel_rfl
theorem ex_may : (mkO [([97], mkA []), ([98], mkD ⟨false, [49], 0⟩)]).may = true := by
  kernel_rfl
theorem null_shown : mkN.shown = [110, 117, 108, 108] := by kernel_rfl
theorem null_may : mkN.may = true := by kernel_rfl

end Go.Proofs.YtnnklbfpgmndoaaDoor.Ps
namespace Go.Proofs.YtnnklbfpgmndoaaDoor
open Go.RowKit Js

theorem tab_size {w : World} (h : Tab w) : 0 < w.heap.size := by
  unfold Tab Lib.TabIs World.var? at h
  have e : Tryd.prog.globalNamed "internal/strconv.uint64pow10" = some 0 := by kernel_rfl
  rw [e] at h
  simp only [Option.bind_some] at h
  cases hq : w.heap[0]? with
  | none => rw [hq] at h; cases h
  | some o => exact (Array.getElem?_eq_some_iff.1 hq).1
/-- Show of a value, wherever it stands. -/
theorem show_on {v : Vl} {x : Value} {W : World} (hT : Tab W) (hv : v.may = true) (hl : v.shown.length ≤ 1000000) (hx : v.In W.cell? x) {q : List UInt8} (hq : v.shown = q) :
    ∀ w', Below W.heap.size W w' → Calls Tryd.prog 6 #[x] w' fun e w'' => e = .returned (.string ⟨q.toArray⟩) ∧ Below w'.heap.size w' w'' := fun w' hb => by
  subst hq
  exact showV_any v x w' (In.keep (le_below hb) _ _ hx) hv hl (hT.keep hb) (tab_size (hT.keep hb))

set_option linter.unusedVariables false in
set_option linter.unusedSimpArgs false in
set_option maxRecDepth 100000 in
set_option maxHeartbeats 1000000 in
theorem up5_any (w : World) (hT : Tab w) : Calls Tryd.prog 4 #[] w fun e w' => e = .returned (.bool true) ∧ Below w.heap.size w w' := by
  have HP1 := Lib.hid (refParse_any ⟨#[123, 34, 98, 34, 58, 49, 46, 48, 44, 32, 34, 97, 34, 58, 91, 93, 125]⟩ (by decide) w)
  have HT := Lib.hid hT
  clear hT
  go_enter Tryd.func4, Tryd.ntmps4
  go_wp2_with fail
  refine HP1.out.mono ?_
  rintro e w1 ⟨v, x, c, p, rfl, hx, hb1, hr⟩
  rw [show (⟨#[123, 34, 98, 34, 58, 49, 46, 48, 44, 32, 34, 97, 34, 58, 91, 93, 125]⟩ : ByteArray).data.toList = [123, 34, 98, 34, 58, 49, 46, 48, 44, 32, 34, 97, 34, 58, 91, 93, 125] from rfl, Ps.ex_show] at hr
  obtain ⟨rfl, rfl, rfl⟩ := hr
  obtain ⟨k1, b1, n1, g1, x1, s1, A1, l1, p1, B1, m1, z1, rfl⟩ := In.cells hx
  have hal := (le_on w1 (w.heap.size ≤ ·)).trans (le_alloc w1 (.cells #[.int .i64 k1, .bool b1, .bool n1, .string ⟨g1.toArray⟩, .int .i64 x1, .string ⟨s1.toArray⟩, .slice A1 l1 p1, .slice B1 m1 z1] 28))
  have hbx := hb1.alloc hb1.size (.cells #[.int .i64 k1, .bool b1, .bool n1, .string ⟨g1.toArray⟩, .int .i64 x1, .string ⟨s1.toArray⟩, .slice A1 l1 p1, .slice B1 m1 z1] 28)
  have HBX := Lib.hid hbx
  have HS1 := Lib.hid (show_on (HT.out.keep hbx) Ps.ex_may (by rw [Ps.ex_shown]; decide) (In.keep hal _ _ hx) Ps.ex_shown _ (Below.refl _ _))
  have HT2 := Lib.hid (HT.out.keep hbx)
  clear hx hb1 hal hbx
  go_wp2_with fail
  refine HS1.out.mono ?_
  rintro e w2 ⟨rfl, hb2⟩
  have HT3 := Lib.hid (HT2.out.keep hb2)
  have HB2 := Lib.hid (HBX.out.trans (hb2.mono HBX.out.size))
  have HS2 := Lib.hid (show_on HT3.out Ps.null_may (by rw [Ps.null_shown]; decide) (leaf_in _ 0 false Nm.Num.zero []) Ps.null_shown _ (Below.refl _ _))
  clear hb2
  go_wp2_with fail
  refine HS2.out.mono ?_
  rintro e w3 ⟨rfl, hb3⟩
  have HB3 := Lib.hid (HB2.out.trans (hb3.mono HB2.out.size))
  clear hb3
  go_wp2_with fail
  go_ret
  exact ⟨rfl, HB3.out⟩

end Go.Proofs.YtnnklbfpgmndoaaDoor

