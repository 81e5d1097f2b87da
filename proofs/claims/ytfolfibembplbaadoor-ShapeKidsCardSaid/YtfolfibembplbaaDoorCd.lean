/- The walks of layer 10 (shape): the document's Kids. (By gen_cd.py.) -/
import Derived.Test.YtfolfibembplbaaDoorCb
import Derived.Deep.AppendLies
import Derived.Deep.RegionHeld3
namespace Go.Proofs.YtfolfibembplbaaDoor
open Go.RowKit Js

/-- What Kids tells: members that lie in blocks that were there, or new ones. -/
def KidsP (S : Nat → Prop) (r : List Js.Mem) (w : World) (e : Ending) (w' : World) : Prop :=
  ∃ (A : Option Addr) (cp : Nat), e = .returned (.slice A r.length cp) ∧ SlM (w'.on fun b => S b ∨ w.heap.size ≤ b) A r ∧ r.length ≤ cp ∧ cp ≤ maxLen ∧ Below w.heap.size w w'
theorem via10 {K : Act → World → Prop} {a : Act} {w' : World} (F : World → Prop) (hF : F w') (h : ∀ W, F W → K a W) : K a w' := h w' hF
/-- A row that grows by one: what it is, and what it will be. -/
theorem RowG.more {α : Type} {It : Cl → α → List Value → Prop} {T : TypeId} {k : Nat} {S : Nat → Prop} (hmono : ∀ {c c' : Cl}, c.le c' → ∀ {a cs}, It c a cs → It c' a cs) {w : World} {B : Nat} {A : Option Addr} {cp j : Nat} {acc : List α} (hj : acc.length = j) (h : RowG It T k S w B A cp acc) :
    ∃ flat, w.ownsRow B T k (.slice A j cp) j flat ∧ ∀ {w6 : World} {a : α} {cs : List Value} {g cap : Nat}, It (w.on (OffS S B A)) a cs → (∀ u ∈ cs, u.oneCell' = true) → w6.ownsRow B T k (.slice (some ⟨g, 0, none⟩) (j + 1) cap) (j + 1) (flat ++ cs) → w.grownBy w6 (Value.slice A j cp).ownBlock → ((Value.slice A j cp).ownBlock = some g ∨ g = w.heap.size) → RowG It T k S w6 B (some ⟨g, 0, none⟩) cap (acc ++ [a]) := by
  subst hj
  obtain ⟨flat, hown, hone, hel⟩ := h
  exact ⟨flat, hown, fun ha hcs h6 hg hat => RowG.push hmono hown hone hel (Below.refl _ _) ha hcs h6 hg hat⟩
/-- A list of one member, in a block of its own. -/
theorem slM_one10 {w : World} {S : Nat → Prop} {g : Nat} {t : TypeId} {nm : List UInt8} {x : Vl} {c0 c1 c2 c3 c4 c5 c6 c7 : Value} (hb : Blk w g t #[.string ⟨nm.toArray⟩, c0, c1, c2, c3, c4, c5, c6, c7]) (hg : S g)
    (hx : x.In (w.on S) (.agg #[c0, c1, c2, c3, c4, c5, c6, c7])) : SlM (w.on S) (some ⟨g, 0, none⟩) [(nm, x)] := fun i p hi => by
  have hl := (List.getElem?_eq_some_iff.1 hi).1
  obtain rfl : i = 0 := by simpa using hl
  obtain rfl : (nm, x) = p := by simpa using hi
  refine ⟨g, 0, _, rfl, hx, on_some.2 ⟨hg, hb.cell 0⟩, fun j u hu => on_some.2 ⟨hg, ?_⟩⟩
  rw [hb.cell]
  have e : (#[.string ⟨nm.toArray⟩, c0, c1, c2, c3, c4, c5, c6, c7] : Array Value) = #[.string ⟨nm.toArray⟩] ++ #[c0, c1, c2, c3, c4, c5, c6, c7] := rfl
  rw [e, show 0 + 0 * 9 + 1 + j = 1 + j by omega, Array.getElem?_append_right (by simp)]
  simpa [Value.cells] using hu
/-- A value's box, where a row of the call's own has grown. -/
theorem Boxed.grown10 {w w' w6 : World} {k : Int} {b neg : Bool} {dg : List UInt8} {ex : Int} {s : List UInt8} {lv mv : Value} {row : Option Nat} (h : Boxed w k b neg dg ex s lv mv w') (hg : w'.grownBy w6 row) (hr : ∀ q, row = some q → w.heap.size + 1 ≤ q) : Boxed w k b neg dg ex s lv mv w6 := by
  have h2 : Below _ _ w' := h
  exact h2.grown hg (by have := h2.size; simp at this; omega) hr
theorem Boxed.size10 {w w' : World} {k : Int} {b neg : Bool} {dg : List UInt8} {ex : Int} {s : List UInt8} {lv mv : Value} (h : Boxed w k b neg dg ex s lv mv w') : w.heap.size + 1 ≤ w'.heap.size := by
  have h2 : Below _ _ w' := h
  have := h2.size
  simp at this; omega

end Go.Proofs.YtfolfibembplbaaDoor

