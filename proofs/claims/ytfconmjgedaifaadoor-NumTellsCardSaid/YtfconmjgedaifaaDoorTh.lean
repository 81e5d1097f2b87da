/- The walks of the document's answers of layer 1, eighth part: Of. -/
import Derived.Test.YtfconmjgedaifaaDoorTg
import Derived.Test.YtfconmjgedaifaaDoorMa
import Derived.Test.YtfconmjgedaifaaDoorWj
namespace Go.Proofs.YtfconmjgedaifaaDoor
open Go.RowKit

set_option maxHeartbeats 400000 in
theorem refOf_any (k : Int) (w : World) (h0 : 0 ≤ k) (h1 : k ≤ 1000000000000) :
    Calls Tryd.prog 15 #[.int .i64 k] w fun e w' => e = .returned (numV (Nm.parse (Lib.itoa k)).1) ∧ Below w.heap.size w w' := by
  go_enter Tryd.func15, Tryd.ntmps15
  go_wp2_with fail
  refine (itoa_any _ _ (by omega) h1).mono ?_
  rintro e w1 ⟨rfl, hb1⟩
  have hz1 := hb1.size
  simp at hz1
  have hlen := Lib.itoa_length_le k (by omega) (by omega)
  go_wp2_with fail
  refine (number_any _ _ (by rw [Lib.size_mk]; omega) (Nm.numLaw _ (by simp; omega))).mono ?_
  rw [show (⟨(Lib.itoa k).toArray⟩ : ByteArray).data.toList = Lib.itoa k from rfl]
  rintro e w2 ⟨rfl, hb2⟩
  have hz2 := hb2.size
  generalize hp : Nm.parse (Lib.itoa k) = r
  have HP := Lib.hid hp
  clear hp
  obtain ⟨⟨nn, nd, nx⟩, nc⟩ := r
  have h3 : Below (w.heap.size + 1) (w.alloc (.cells #[.bool false, .string ⟨#[]⟩, .int .i64 0] 24)) w2 := (hb1.mono (by simp)).trans (hb2.mono (by omega))
  obtain ⟨r0, r1, r2, r3⟩ := res_cells h3
  have k2 : w.heap.size < w2.heap.size := by omega
  have h4 : Below w.heap.size w w2 := ((Below.refl _ _).alloc (Nat.le_refl _) _).trans (h3.mono (Nat.le_succ _))
  clear h3 hb1 hb2
  go_wp2
  refine bodyPost_ret (v := numV (Nm.parse (Lib.itoa k)).1) ?_ rfl ⟨rfl, ?_⟩
  · rw [HP.out]
    simp [results, Tryd.results15, go_sem, r0, r1, r2, k2]
  · exact Below.alloc (below_set (below_set (below_set h4 (Nat.le_refl _) _ _) (Nat.le_refl _) _ _) (Nat.le_refl _) _ _) (by simp; omega) _

end Go.Proofs.YtfconmjgedaifaaDoor
