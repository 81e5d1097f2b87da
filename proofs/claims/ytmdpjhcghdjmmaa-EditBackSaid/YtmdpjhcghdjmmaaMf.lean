/- Mf: Vi Rc, in one text. -/
import Derived.Test.YtmdpjhcghdjmmaaMe
import Derived.Test.YtmdpjhcghdjmmaaWb
/- The walk of layer 3: the program's Same. -/
namespace Go.Proofs.Ytmdpjhcghdjmmaa
open Go.RowKit Js
end Go.Proofs.Ytmdpjhcghdjmmaa

/- The program's hasOnlyOwn. -/
namespace Go.Proofs.Ytmdpjhcghdjmmaa
open Go.RowKit Js

theorem natz (m : Nat) : ((m : Int) == 0) = decide (m = 0) := by
  rw [Bool.eq_iff_iff]; simp

end Go.Proofs.Ytmdpjhcghdjmmaa


