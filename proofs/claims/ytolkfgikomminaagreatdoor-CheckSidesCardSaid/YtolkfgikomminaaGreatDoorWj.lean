/- Wj: Wj Th, in one text. -/
import Derived.Test.YtolkfgikomminaaGreatDoorWg
import Derived.Test.YtolkfgikomminaaGreatDoorMa
import Derived.Test.YtolkfgikomminaaGreatDoorTg
namespace Go.Proofs.YtolkfgikomminaaGreatDoor
open Go.RowKit
theorem NumAt.new (w : World) (n : Bool) (d : List UInt8) (x : Int) (t : TypeId) : NumAt (w.alloc (.cells #[.bool n, .string ⟨d.toArray⟩, .int .i64 x] t)) w.heap.size n d x := ⟨by simp, by simp, by simp⟩
theorem NumAt.lt {w : World} {b : Nat} {n : Bool} {d : List UInt8} {x : Int} (h : NumAt w b n d x) : b < w.heap.size := World.block_lt_of_cell? w _ h.1
theorem NumAt.alloc {w : World} {b : Nat} {n : Bool} {d : List UInt8} {x : Int} (h : NumAt w b n d x) (o : Obj) : NumAt (w.alloc o) b n d x := h.keep ((Below.refl w.heap.size w).alloc (Nat.le_refl _) o) h.lt
theorem NumAt.on {W w1 : World} {b : Nat} {n : Bool} {d : List UInt8} {x : Int} (h : NumAt W b n d x) (hb : Below W.heap.size W w1) : NumAt w1 b n d x := h.keep hb h.lt

end Go.Proofs.YtolkfgikomminaaGreatDoor

namespace Go.Proofs.YtolkfgikomminaaGreatDoor
open Go.RowKit

set_option maxHeartbeats 400000 in
theorem refOf_any (k : Int) (w : World) (h0 : 0 ≤ k) (h1 : k ≤ 1000000000000) :
  Calls Tryz.prog 30 #[.int .i64 k] w fun e w' => e = .returned (numV (Nm.parse (Lib.itoa k)).1) ∧ Below w.heap.size w w' := by
 go_enter Tryz.func30, Tryz.ntmps30
 go_wp2_with fail
 refine (itoa_any _ _ (by omega) h1).mono ?_
 rintro e w1 ⟨rfl, hb1⟩
 have hz1 := hb1.size
 simp at hz1
 have hlen := Lib.itoa_length_le k (by omega) (by omega)
 go_wp2_with fail
 refine (number_any _ _ (by rw [Lib.size_mk]; omega) (Nm.numLaw _ (by simp; omega))).mono ?_
 rw [show (⟨(Lib.itoa k).toArray⟩ : ByteArray).data.toList = Lib.itoa k from rfl]
 rintro e w2 ⟨rfl, hb2⟩
 have hz2 := hb2.size
 generalize hp : Nm.parse (Lib.itoa k) = r
 have HP := Lib.hid hp
 clear hp
 obtain ⟨⟨nn, nd, nx⟩, nc⟩ := r
 have h3 : Below (w.heap.size + 1) (w.alloc (.cells #[.bool false, .string ⟨#[]⟩, .int .i64 0] 27)) w2 := (hb1.mono (by simp)).trans (hb2.mono (by omega))
 obtain ⟨r0, r1, r2, r3⟩ := res_cells h3
 have k2 : w.heap.size < w2.heap.size := by omega
 have h4 : Below w.heap.size w w2 := ((Below.refl _ _).alloc (Nat.le_refl _) _).trans (h3.mono (Nat.le_succ _))
 clear h3 hb1 hb2
 go_wp2
 refine bodyPost_ret (v := numV (Nm.parse (Lib.itoa k)).1) ?_ rfl ⟨rfl, ?_⟩
 ·rw [HP.out]
  simp [results, Tryz.results30, go_sem, r0, r1, r2, k2]
 ·exact Below.alloc (below_set (below_set (below_set h4 (Nat.le_refl _) _ _) (Nat.le_refl _) _ _) (Nat.le_refl _) _ _) (by simp; omega) _

end Go.Proofs.YtolkfgikomminaaGreatDoor


