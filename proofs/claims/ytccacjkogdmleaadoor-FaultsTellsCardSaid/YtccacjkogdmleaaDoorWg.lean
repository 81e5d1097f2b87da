/- Wg: Wg Mj, in one text. -/
import Derived.Test.YtccacjkogdmleaaDoorMh
import Derived.Test.YtccacjkogdmleaaDoorMa
import Derived.Deep.DeepFit
import Derived.IntWalk
import Derived.Laws.Concat
import Derived.Lib.IfaceEq
/- The walks of layer 1 (num), seventh part: Parse. -/
namespace Go.Proofs.YtccacjkogdmleaaDoor
open Go.RowKit

/-- The pieces that Parse has boxed; what is older is as it was. -/
def PartsAt (w1 : World) (a b : Bool) (p1 p2 p3 : List UInt8) (w' : World) : Prop :=
  (w'.cell? ⟨w1.heap.size, 0, none⟩ = some (.bool a) ∧ w'.cell? ⟨w1.heap.size, 1, none⟩ = some (.string ⟨p1.toArray⟩) ∧ w'.cell? ⟨w1.heap.size, 2, none⟩ = some (.string ⟨p2.toArray⟩) ∧ w'.cell? ⟨w1.heap.size, 3, none⟩ = some (.bool b) ∧ w'.cell? ⟨w1.heap.size, 4, none⟩ = some (.string ⟨p3.toArray⟩)) ∧ Below w1.heap.size w1 w' ∧ w1.heap.size + 1 ≤ w'.heap.size

theorem PartsAt.keep {w1 : World} {a b : Bool} {p1 p2 p3 : List UInt8} {W w2 : World} (h : PartsAt w1 a b p1 p2 p3 W) (hb : Below W.heap.size W w2) : PartsAt w1 a b p1 p2 p3 w2 := by
  obtain ⟨⟨h0, h1, h2, h3, h4⟩, h5, h6⟩ := h
  have hc := fun o => hb.cell (p := ⟨w1.heap.size, o, none⟩) (by simp; omega)
  exact ⟨⟨(hc 0).trans h0, (hc 1).trans h1, (hc 2).trans h2, (hc 3).trans h3, (hc 4).trans h4⟩, h5.trans (hb.mono (by omega)), by have := hb.size; omega⟩

theorem PartsAt.start (w1 : World) (a b : Bool) (p1 p2 p3 : List UInt8) (t : TypeId) : PartsAt w1 a b p1 p2 p3 (w1.alloc (.cells #[.bool a, .string ⟨p1.toArray⟩, .string ⟨p2.toArray⟩, .bool b, .string ⟨p3.toArray⟩] t)).drew := by
  refine ⟨⟨?_, ?_, ?_, ?_, ?_⟩, ((Below.refl _ _).alloc (Nat.le_refl _) _).drew, by simp⟩ <;> simp

theorem PartsAt.start2 (w1 : World) (a b : Bool) (p1 p2 p3 : List UInt8) (t : TypeId) (o : Obj) : PartsAt w1 a b p1 p2 p3 ((w1.alloc (.cells #[.bool a, .string ⟨p1.toArray⟩, .string ⟨p2.toArray⟩, .bool b, .string ⟨p3.toArray⟩] t)).alloc o).drew := by
  refine ⟨⟨?_, ?_, ?_, ?_, ?_⟩, (below_two0 w1 _ _).drew, by simp⟩ <;> simp

theorem PartsAt.alloc {w1 : World} {a b : Bool} {p1 p2 p3 : List UInt8} {W : World} (h : PartsAt w1 a b p1 p2 p3 W) (o : Obj) : PartsAt w1 a b p1 p2 p3 (W.alloc o) :=
  h.keep ((Below.refl _ _).alloc (Nat.le_refl _) _)

theorem PartsAt.set {w1 : World} {a b : Bool} {p1 p2 p3 : List UInt8} {W : World} (h : PartsAt w1 a b p1 p2 p3 W) {k : Nat} (hk : w1.heap.size + 1 ≤ k) (o : Nat) (v : Value) : PartsAt w1 a b p1 p2 p3 (W.setCell ⟨k, o, none⟩ v) := by
  obtain ⟨⟨h0, h1, h2, h3, h4⟩, h5, h6⟩ := h
  have hb : Below (w1.heap.size + 1) W (W.setCell ⟨k, o, none⟩ v) := (Below.refl _ _).setCell (p := ⟨k, o, none⟩) hk v
  have hc := fun o => hb.cell (p := ⟨w1.heap.size, o, none⟩) (Nat.lt_succ_self _)
  exact ⟨⟨(hc 0).trans h0, (hc 1).trans h1, (hc 2).trans h2, (hc 3).trans h3, (hc 4).trans h4⟩, h5.trans (hb.mono (Nat.le_succ _)), Nat.le_trans h6 hb.size⟩

/-- The cells of a result of type Num that nothing has touched. -/
theorem res_cells {w W : World} {t : TypeId} (h : Below (w.heap.size + 1) (w.alloc (.cells #[.bool false, .string ⟨#[]⟩, .int .i64 0] t)) W) :
    W.cell? ⟨w.heap.size, 0, none⟩ = some (.bool false) ∧ W.cell? ⟨w.heap.size, 1, none⟩ = some (.string ⟨#[]⟩) ∧ W.cell? ⟨w.heap.size, 2, none⟩ = some (.int .i64 0) ∧ ∀ o, W.frozen? ⟨w.heap.size, o, none⟩ = false := by
  have hc := fun o => h.cell (p := ⟨w.heap.size, o, none⟩) (Nat.lt_succ_self _)
  refine ⟨(hc 0).trans (by simp), (hc 1).trans (by simp), (hc 2).trans (by simp), fun o => (h.frozen (p := ⟨w.heap.size, o, none⟩) (Nat.lt_succ_self _)).trans (by simp)⟩

theorem second_cells {w1 w2 : World} {o1 : Obj} {t : TypeId} (h : Below ((w1.alloc o1).alloc (.cells #[.bool false, .string ⟨#[]⟩, .int .i64 0] t)).drew.heap.size ((w1.alloc o1).alloc (.cells #[.bool false, .string ⟨#[]⟩, .int .i64 0] t)).drew w2) :
    w2.cell? ⟨w1.heap.size + 1, 0, none⟩ = some (.bool false) ∧ w2.cell? ⟨w1.heap.size + 1, 1, none⟩ = some (.string ⟨#[]⟩) ∧ w2.cell? ⟨w1.heap.size + 1, 2, none⟩ = some (.int .i64 0) := by
  have hc := fun o => h.cell (p := ⟨w1.heap.size + 1, o, none⟩) (by simp)
  exact ⟨(hc 0).trans (by simp), (hc 1).trans (by simp), (hc 2).trans (by simp)⟩

end Go.Proofs.YtccacjkogdmleaaDoor

/- Mj: Wh Wi, in one text. -/
/- The walks of layer 1 (num), eighth part: Of, and the law's Code. -/
namespace Go.Proofs.YtccacjkogdmleaaDoor
open Go.RowKit
end Go.Proofs.YtccacjkogdmleaaDoor

/- The walks of layer 1 (num), ninth part: the laws' head. -/
namespace Go.Proofs.YtccacjkogdmleaaDoor
open Go.RowKit
end Go.Proofs.YtccacjkogdmleaaDoor


