/- Cb: Cb Cd Ce, in one text. -/
import Derived.Test.YtccacjkogdmleaaDoorCa
import Derived.Test.YtccacjkogdmleaaDoorJd
import Derived.Test.YtccacjkogdmleaaDoorJg
import Derived.Test.YtccacjkogdmleaaDoorMo
import Derived.BigQuiet
import Derived.Deep.AppendLies
import Derived.Deep.RegionHeld3
/- The walks of layer 10 (shape): the document's own functions beneath Shape. (By gen_cb.py.) -/
namespace Go.Proofs.YtccacjkogdmleaaDoor
open Go.RowKit Js
/-- An element of a list that lies in memory, in parts. -/
theorem el_parts {c : Cl} {A : Option Addr} {l : List Vl} (h : SlL c A l) {j : Nat} {u : Vl} (hj : l[j]? = some u) : ∃ (g o : Nat) (k : Int) (b : Bool) (n : Nm.Num) (s : List UInt8) (l1 : List Vl) (m1 : List Js.Mem) (A1 : Option Addr) (e1 : Nat) (B1 : Option Addr) (d1 : Nat),
    A = some ⟨g, o, none⟩ ∧ u = .mk k b n s l1 m1 ∧ CellsAt c g (o + j * 8) (.agg #[.int .i64 k, .bool b, .bool n.neg, .string ⟨n.digits.toArray⟩, .int .i64 n.exp, .string ⟨s.toArray⟩, .slice A1 l1.length e1, .slice B1 m1.length d1]) := by
  obtain ⟨g, o, y, hA, hy, hc⟩ := h j u hj
  obtain ⟨k, b, n, s, l1, m1⟩ := u
  obtain ⟨A1, e1, B1, d1, rfl, -, -, -, -, -, -⟩ := In.form hy
  exact ⟨g, o, k, b, n, s, l1, m1, A1, e1, B1, d1, hA, rfl, hc⟩

end Go.Proofs.YtccacjkogdmleaaDoor

/- The walks of layer 10 (shape): the document's Kids. (By gen_cd.py.) -/
namespace Go.Proofs.YtccacjkogdmleaaDoor
open Go.RowKit Js

/-- What Kids tells: members that lie in blocks that were there, or new ones. -/
def KidsP (S : Nat → Prop) (r : List Js.Mem) (w : World) (e : Ending) (w' : World) : Prop :=
  ∃ (A : Option Addr) (cp : Nat), e = .returned (.slice A r.length cp) ∧ SlM (w'.on fun b => S b ∨ w.heap.size ≤ b) A r ∧ r.length ≤ cp ∧ cp ≤ maxLen ∧ Below w.heap.size w w'
theorem via10 {K : Act → World → Prop} {a : Act} {w' : World} (F : World → Prop) (hF : F w') (h : ∀ W, F W → K a W) : K a w' := h w' hF
/-- A row that grows by one: what it is, and what it will be. -/
theorem RowG.more {α : Type} {It : Cl → α → List Value → Prop} {T : TypeId} {k : Nat} {S : Nat → Prop} (hmono : ∀ {c c' : Cl}, c.le c' → ∀ {a cs}, It c a cs → It c' a cs) {w : World} {B : Nat} {A : Option Addr} {cp j : Nat} {acc : List α} (hj : acc.length = j) (h : RowG It T k S w B A cp acc) :
    ∃ flat, w.ownsRow B T k (.slice A j cp) j flat ∧ ∀ {w6 : World} {a : α} {cs : List Value} {g cap : Nat}, It (w.on (OffS S B A)) a cs → (∀ u ∈ cs, u.oneCell' = true) → w6.ownsRow B T k (.slice (some ⟨g, 0, none⟩) (j + 1) cap) (j + 1) (flat ++ cs) → w.grownBy w6 (Value.slice A j cp).ownBlock → ((Value.slice A j cp).ownBlock = some g ∨ g = w.heap.size) → RowG It T k S w6 B (some ⟨g, 0, none⟩) cap (acc ++ [a]) := by
  subst hj
  obtain ⟨flat, hown, hone, hel⟩ := h
  exact ⟨flat, hown, fun ha hcs h6 hg hat => RowG.push hmono hown hone hel (Below.refl _ _) ha hcs h6 hg hat⟩
/-- A list of one member, in a block of its own. -/
theorem slM_one10 {w : World} {S : Nat → Prop} {g : Nat} {t : TypeId} {nm : List UInt8} {x : Vl} {c0 c1 c2 c3 c4 c5 c6 c7 : Value} (hb : Blk w g t #[.string ⟨nm.toArray⟩, c0, c1, c2, c3, c4, c5, c6, c7]) (hg : S g)
    (hx : x.In (w.on S) (.agg #[c0, c1, c2, c3, c4, c5, c6, c7])) : SlM (w.on S) (some ⟨g, 0, none⟩) [(nm, x)] := fun i p hi => by
  have hl := (List.getElem?_eq_some_iff.1 hi).1
  obtain rfl : i = 0 := by simpa using hl
  obtain rfl : (nm, x) = p := by simpa using hi
  refine ⟨g, 0, _, rfl, hx, on_some.2 ⟨hg, hb.cell 0⟩, fun j u hu => on_some.2 ⟨hg, ?_⟩⟩
  rw [hb.cell]
  have e : (#[.string ⟨nm.toArray⟩, c0, c1, c2, c3, c4, c5, c6, c7] : Array Value) = #[.string ⟨nm.toArray⟩] ++ #[c0, c1, c2, c3, c4, c5, c6, c7] := rfl
  rw [e, show 0 + 0 * 9 + 1 + j = 1 + j by omega, Array.getElem?_append_right (by simp)]
  simpa [Value.cells] using hu
end Go.Proofs.YtccacjkogdmleaaDoor

/- The walks of layer 10 (shape): the document's Shape. (By gen_ce.py.) -/
namespace Go.Proofs.YtccacjkogdmleaaDoor
open Go.RowKit Js

theorem Sh.shape_ok {nm : List UInt8} {q : Nat} {v : Vl} (h : Sh.kw nm = q) (hq : ¬ q = 0) (ho : Sh.okOf q v = true) : Sh.shape nm v = 0 := by rw [Sh.shape_eq v h hq, ho]; rfl
theorem Sh.shape_no {nm : List UInt8} {q : Nat} {v : Vl} (h : Sh.kw nm = q) (hq : ¬ q = 0) (ho : Sh.okOf q v = false) : Sh.shape nm v = 11 := by rw [Sh.shape_eq v h hq, ho]; rfl

end Go.Proofs.YtccacjkogdmleaaDoor


