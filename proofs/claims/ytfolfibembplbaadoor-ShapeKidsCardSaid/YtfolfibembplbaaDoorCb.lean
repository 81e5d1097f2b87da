/- The walks of layer 10 (shape): the document's own functions beneath Shape. (By gen_cb.py.) -/
import Derived.Test.YtfolfibembplbaaDoorCa
import Derived.Test.YtfolfibembplbaaDoorJd
import Derived.Test.YtfolfibembplbaaDoorJg
import Derived.Test.YtfolfibembplbaaDoorMo
import Derived.BigQuiet
namespace Go.Proofs.YtfolfibembplbaaDoor
open Go.RowKit Js
/-- An element of a list that lies in memory, in parts. -/
theorem el_parts {c : Cl} {A : Option Addr} {l : List Vl} (h : SlL c A l) {j : Nat} {u : Vl} (hj : l[j]? = some u) : ∃ (g o : Nat) (k : Int) (b : Bool) (n : Nm.Num) (s : List UInt8) (l1 : List Vl) (m1 : List Js.Mem) (A1 : Option Addr) (e1 : Nat) (B1 : Option Addr) (d1 : Nat),
    A = some ⟨g, o, none⟩ ∧ u = .mk k b n s l1 m1 ∧ CellsAt c g (o + j * 8) (.agg #[.int .i64 k, .bool b, .bool n.neg, .string ⟨n.digits.toArray⟩, .int .i64 n.exp, .string ⟨s.toArray⟩, .slice A1 l1.length e1, .slice B1 m1.length d1]) := by
  obtain ⟨g, o, y, hA, hy, hc⟩ := h j u hj
  obtain ⟨k, b, n, s, l1, m1⟩ := u
  obtain ⟨A1, e1, B1, d1, rfl, -, -, -, -, -, -⟩ := In.form hy
  exact ⟨g, o, k, b, n, s, l1, m1, A1, e1, B1, d1, hA, rfl, hc⟩

end Go.Proofs.YtfolfibembplbaaDoor

