/- The walks of layer 10 (shape): the document's Shape. (By gen_ce.py.) -/
import Derived.Test.YtfolfibembplbaaDoorCd
namespace Go.Proofs.YtfolfibembplbaaDoor
open Go.RowKit Js

theorem Sh.shape_ok {nm : List UInt8} {q : Nat} {v : Vl} (h : Sh.kw nm = q) (hq : ¬ q = 0) (ho : Sh.okOf q v = true) : Sh.shape nm v = 0 := by rw [Sh.shape_eq v h hq, ho]; rfl
theorem Sh.shape_no {nm : List UInt8} {q : Nat} {v : Vl} (h : Sh.kw nm = q) (hq : ¬ q = 0) (ho : Sh.okOf q v = false) : Sh.shape nm v = 11 := by rw [Sh.shape_eq v h hq, ho]; rfl

end Go.Proofs.YtfolfibembplbaaDoor

