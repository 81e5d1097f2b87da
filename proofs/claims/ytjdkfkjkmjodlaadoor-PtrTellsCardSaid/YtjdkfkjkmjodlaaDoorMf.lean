/- Mf: Vi Rc, in one text. -/
import Derived.Test.YtjdkfkjkmjodlaaDoorMe
import Derived.Test.YtjdkfkjkmjodlaaDoorWb
/- The walk of layer 3: the program's Same. -/
namespace Go.Proofs.YtjdkfkjkmjodlaaDoor
open Go.RowKit Js
end Go.Proofs.YtjdkfkjkmjodlaaDoor

/- The program's hasOnlyOwn. -/
namespace Go.Proofs.YtjdkfkjkmjodlaaDoor
open Go.RowKit Js

theorem natz (m : Nat) : ((m : Int) == 0) = decide (m = 0) := by
  rw [Bool.eq_iff_iff]; simp

end Go.Proofs.YtjdkfkjkmjodlaaDoor


