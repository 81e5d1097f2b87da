/- Wg: Wg Mj, in one text. -/
import Derived.Test.YtjjenpmahmbafaaGreatDoorMh
import Derived.Test.YtjjenpmahmbafaaGreatDoorMa
import Derived.Deep.DeepFit
import Derived.IntWalk
import Derived.Laws.Concat
import Derived.Lib.IfaceEq
namespace Go.Proofs.YtjjenpmahmbafaaGreatDoor
open Go.RowKit
def errV (k : Int) : Value := if k = 0 then .nilIface else .iface 64 (.int .i64 k)

theorem res_cells {w W : World} {t : TypeId} (h : Below (w.heap.size + 1) (w.alloc (.cells #[.bool false, .string ⟨#[]⟩, .int .i64 0] t)) W) :
    W.cell? ⟨w.heap.size, 0, none⟩ = some (.bool false) ∧ W.cell? ⟨w.heap.size, 1, none⟩ = some (.string ⟨#[]⟩) ∧ W.cell? ⟨w.heap.size, 2, none⟩ = some (.int .i64 0) ∧ ∀ o, W.frozen? ⟨w.heap.size, o, none⟩ = false := by
  have hc := fun o => h.cell (p := ⟨w.heap.size, o, none⟩) (Nat.lt_succ_self _)
  refine ⟨(hc 0).trans (by simp), (hc 1).trans (by simp), (hc 2).trans (by simp), fun o => (h.frozen (p := ⟨w.heap.size, o, none⟩) (Nat.lt_succ_self _)).trans (by simp)⟩

end Go.Proofs.YtjjenpmahmbafaaGreatDoor

namespace Go.Proofs.YtjjenpmahmbafaaGreatDoor
open Go.RowKit
end Go.Proofs.YtjjenpmahmbafaaGreatDoor

namespace Go.Proofs.YtjjenpmahmbafaaGreatDoor
open Go.RowKit
end Go.Proofs.YtjjenpmahmbafaaGreatDoor


