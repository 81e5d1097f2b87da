/- The laws of layer 10 (shape), given what the program's Check, Single and Kids are to do. (By gen_cf.py.) -/
import Derived.Test.YtolkfgikomminaaGreatDoorCb
import Derived.Test.YtolkfgikomminaaGreatDoorMt
import Derived.Test.YtolkfgikomminaaGreatDoorWg
import Derived.Test.YtolkfgikomminaaGreatDoorRg
namespace Go.Proofs.YtolkfgikomminaaGreatDoor
open Go.RowKit Js

def Stays (G : World → Prop) : Prop := ∀ w w' : World, G w → Below w.heap.size w w' → G w'
def Wide (v : Vl) : Prop := v.may = true ∧ v.size ≤ 1000000 ∧ v.slim 1000000
theorem Fine.wide {v : Vl} (h : Fine v) : Wide v := ⟨h.1, by have := h.2.1; omega, slim_mono (by omega) v h.2.2.2.2⟩
def Sh.exV : Vl := Ps.mkS [105, 110, 116, 101, 103, 101, 114]
end Go.Proofs.YtolkfgikomminaaGreatDoor

