/- The laws of layer 10 (shape), given what the program's Check, Single and Kids are to do. (By gen_cf.py.) -/
import Derived.Test.YtccacjkogdmleaaDoorCb
import Derived.Test.YtccacjkogdmleaaDoorMt
import Derived.Test.YtccacjkogdmleaaDoorWg
import Derived.Test.YtccacjkogdmleaaDoorRg
namespace Go.Proofs.YtccacjkogdmleaaDoor
open Go.RowKit Js

/-- What holds of the world, and stays so. -/
def Stays (G : World → Prop) : Prop := ∀ w w' : World, G w → Below w.heap.size w w' → G w'
/-- What each Kids tells. -/
def KidsE (r : List Js.Mem) (w : World) (e : Ending) (w' : World) : Prop :=
  ∃ (A : Option Addr) (cp : Nat), e = .returned (.slice A r.length cp) ∧ SlM w'.cell? A r ∧ r.length ≤ cp ∧ cp ≤ maxLen ∧ Below w.heap.size w w'
/-- Values that may be, however deep, not too big, no part too long: more than Fine. -/
def Wide (v : Vl) : Prop := v.may = true ∧ v.size ≤ 1000000 ∧ v.slim 1000000
theorem Fine.wide {v : Vl} (h : Fine v) : Wide v := ⟨h.1, by have := h.2.1; omega, slim_mono (by omega) v h.2.2.2.2⟩
/-- A world behind another one. -/
def Since10 (w W : World) : Prop := Below w.heap.size w W

/-- The document's example. -/
def Sh.exV : Vl := Ps.mkS [105, 110, 116, 101, 103, 101, 114]
end Go.Proofs.YtccacjkogdmleaaDoor

