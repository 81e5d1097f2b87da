/- Mg: Vj Vk, in one text. -/
import Derived.Test.YtccacjkogdmleaaDoorRows
import Derived.Test.YtccacjkogdmleaaDoorVb
import Derived.Test.YtccacjkogdmleaaDoorShelf
import Derived.WalkKit
import Derived.WalkSpells
import Derived.WalkLawsBesides
import Derived.Deep.QuietTactic
import Derived.BigQuiet
import Derived.RegionTactic
/- The walks of layer 3: the program's Find, and slices.BinarySearchFunc that it calls. -/
namespace Go.Proofs.YtccacjkogdmleaaDoor
open Go.RowKit Js
def SearchPost (m : List Js.Mem) (key : List UInt8) (w : World) (e : Ending) (w' : World) : Prop :=
  ∃ (i : Nat) (b : Bool), e = .returned (.tuple #[.int .i64 i, .bool b]) ∧ Js.Found m key i b ∧ Below w.heap.size w w'
def Searching (m : List Js.Mem) (key : List UInt8) (w : World) (iv jv : Value) (wr : World) : Prop :=
  ∃ i j : Nat, iv = .int .i64 i ∧ jv = .int .i64 j ∧ Halving m key i j ∧ Below w.heap.size w wr

/-- The empty value. -/
abbrev zeroV : Value := vlV 0 false false [] 0 [] (.slice none 0 0) (.slice none 0 0)
abbrev Js.none0 : Vl := .mk 0 false ⟨false, [], 0⟩ [] [] []
theorem zero_in (c : Cl) : none0.In c zeroV := by
  simp only [Vl.In]
  exact ⟨none, 0, none, 0, rfl, Nat.le_refl _, by simp [maxLen], Nat.le_refl _, by simp [maxLen], fun h => absurd h (by simp), fun h => absurd h (by simp)⟩

/-- What Find tells. -/
def FindPost (r : Option Vl) (w : World) (e : Ending) (w' : World) : Prop :=
  ∃ x, e = .returned (.tuple #[x, .bool r.isSome]) ∧ (r.getD none0).In w'.cell? x ∧ Below w.heap.size w w'

theorem FindPost.no {r : Option Vl} {w w' : World} (h : r = none) (hb : Below w.heap.size w w') : FindPost r w (.returned (.tuple #[zeroV, .bool false])) w' := by
  subst h; exact ⟨_, rfl, zero_in _, hb⟩
theorem FindPost.yes {r : Option Vl} {u : Vl} {w w' : World} {x : Value} (h : r = some u) (hx : u.In w'.cell? x) (hb : Below w.heap.size w w') : FindPost r w (.returned (.tuple #[x, .bool true])) w' := by
  subst h; exact ⟨_, rfl, hx, hb⟩

end Go.Proofs.YtccacjkogdmleaaDoor

/- The walk of layer 3: the document's Find. -/
namespace Go.Proofs.YtccacjkogdmleaaDoor
open Go.RowKit Js

theorem find_first {m : List Js.Mem} {i : Nat} {p : Js.Mem} (hp : m[i]? = some p) (h : ∀ q ∈ m.take i, q.1 ≠ p.1) : Js.find m p.1 = some p.2 := by
  unfold Js.find
  induction m generalizing i with
  | nil => simp at hp
  | cons q m ih =>
    cases i with
    | zero => simp at hp; subst hp; simp
    | succ i =>
      have hne : ¬ q.1 = p.1 := h q (by simp)
      rw [List.find?_cons_of_neg (by simpa using hne)]
      exact ih (i := i) (by simpa using hp) (fun r hr => h r (by simp [hr]))

end Go.Proofs.YtccacjkogdmleaaDoor


