/- The document's Same. -/
import Derived.Test.YtccacjkogdmleaaDoorMe
import Derived.Deep.RegionWith
import Derived.StillTailTactics
import Derived.Deep.Cut
import Derived.Deep.CutRange
namespace Go.Proofs.YtccacjkogdmleaaDoor
open Go.RowKit Js

/-- So far the lists are the same. -/
def SamingL (W : World) (l l' : List Vl) (i : Value) (wr : World) : Prop :=
  ∃ j : Nat, j ≤ l.length ∧ i = .int .i64 j ∧ sameL l l' = sameL (l.drop j) (l'.drop j) ∧ Below W.heap.size W wr
def SamingM (W : World) (l l' : List Js.Mem) (i : Value) (wr : World) : Prop :=
  ∃ j : Nat, j ≤ l.length ∧ i = .int .i64 j ∧ sameM l l' = sameM (l.drop j) (l'.drop j) ∧ Below W.heap.size W wr

theorem sameP_eq (p p' : Js.Mem) : sameP p p' = (decide (p.1 = p'.1) && p.2.same p'.2) := by
  obtain ⟨a, b⟩ := p
  obtain ⟨c, d⟩ := p'
  simp [sameP]

end Go.Proofs.YtccacjkogdmleaaDoor

