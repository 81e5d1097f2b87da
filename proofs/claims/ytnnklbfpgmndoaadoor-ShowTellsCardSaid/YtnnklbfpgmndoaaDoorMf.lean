/- Mf: Vi Rc, in one text. -/
import Derived.Test.YtnnklbfpgmndoaaDoorMe
import Derived.Test.YtnnklbfpgmndoaaDoorWb
/- The walk of layer 3: the program's Same. -/
namespace Go.Proofs.YtnnklbfpgmndoaaDoor
open Go.RowKit Js
end Go.Proofs.YtnnklbfpgmndoaaDoor

/- The program's hasOnlyOwn. -/
namespace Go.Proofs.YtnnklbfpgmndoaaDoor
open Go.RowKit Js

theorem natz (m : Nat) : ((m : Int) == 0) = decide (m = 0) := by
  rw [Bool.eq_iff_iff]; simp

end Go.Proofs.YtnnklbfpgmndoaaDoor


