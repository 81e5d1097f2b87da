/- The walks of layer 1 (num), ninth part: the laws' head. -/
import Derived.Test.YtbcoakonjgakbaaDoorWh
import Derived.Test.YtbcoakonjgakbaaDoorPured
namespace Go.Proofs.YtbcoakonjgakbaaDoor
open Go.RowKit

set_option maxHeartbeats 400000 in
theorem up_any (w : World) (htab : Tab w) :
    Calls Tryd.prog 7 #[] w fun e w' => e = .returned (.bool true) ∧ Below w.heap.size w w' := by
  have HT := Lib.hid htab
  clear htab
  go_enter Tryd.func7, Tryd.ntmps7
  go_wp2_with fail
  refine (parse_any _ _ (by decide)).mono ?_
  rw [show (⟨#[45, 48, 46, 49, 53, 48]⟩ : ByteArray).data.toList = [45, 48, 46, 49, 53, 48] from rfl, Nm.parse_ex1]
  rintro e w1 ⟨rfl, hb1⟩
  go_wp2_with fail
  refine (parse_any _ _ (by decide)).mono ?_
  rw [show (⟨#[48, 49]⟩ : ByteArray).data.toList = [48, 49] from rfl, Nm.parse_ex2]
  rintro e w2 ⟨rfl, hb2⟩
  have hz1 := hb1.size
  have hz2 := hb2.size
  simp at hz2
  have c0 := hb2.cell (p := ⟨w1.heap.size, 0, none⟩) (by simp)
  have c1 := hb2.cell (p := ⟨w1.heap.size, 1, none⟩) (by simp)
  have c2 := hb2.cell (p := ⟨w1.heap.size, 2, none⟩) (by simp)
  simp at c0 c1 c2
  have k1 : w1.heap.size < w2.heap.size := by omega
  rw [show errV 0 = .nilIface from rfl, show errV 1 = .iface 53 (.int .i64 1) from rfl]
  have h02 : Below w.heap.size w w2 := (hb1.alloc hz1 _).trans (hb2.mono (by simp; omega))
  go_wp2_with fail
  refine (show_any true [49, 53] (-2) _ ⟨by decide, by decide, by decide⟩ (HT.out.keep (h02.alloc (by omega) _))).mono ?_
  rw [Nm.text_ex]
  rintro e w3 ⟨rfl, hb3⟩
  have hz3 := hb3.size
  simp at hz3
  go_wp2_with fail
  refine (code_some 1 _ (by decide) (by decide)).mono ?_
  rintro e w4 ⟨rfl, rfl⟩
  go_wp2
  go_ret
  exact ⟨rfl, (h02.alloc (by omega) _).trans (hb3.mono (by simp; omega))⟩

end Go.Proofs.YtbcoakonjgakbaaDoor
