/- Rd: Rd Ms, in one text. -/
import Derived.Test.YtfolfibembplbaaGreatDoorMe
import Derived.Test.YtfolfibembplbaaGreatDoorWg
import Derived.Test.YtfolfibembplbaaGreatDoorMa
import Derived.Test.YtfolfibembplbaaGreatDoorMd
import Derived.Test.YtfolfibembplbaaGreatDoorMc
import Derived.Test.YtfolfibembplbaaGreatDoorMm
/- The program's mayNumber. -/
namespace Go.Proofs.YtfolfibembplbaaGreatDoor
open Go.RowKit Js

/-- A number may be, if its digits, read, are themselves. -/
theorem mayNum_parse (neg : Bool) (d : List UInt8) (x : Int) (h : d ≠ []) :
    mayNum ⟨neg, d, x⟩ = (decide ((Nm.parse d).2 = 0) && decide ((Nm.parse d).1 = ⟨false, d, 0⟩) && decide (-1000 ≤ x) && decide (x ≤ 1000)) := by
  rw [Bool.eq_iff_iff]
  simp only [Bool.and_eq_true, decide_eq_true_eq]
  constructor
  · intro hm
    rcases mayNum_May hm with e | ⟨h0, h1, h2, h3, h4, h5, h6⟩
    · injection e with e1 e2; exact absurd e2 h
    · have hp := Nm.parse_text ⟨false, d, 0⟩ (.inr ⟨h0, h1, h2, h3, h4, by show (-1000 : Int) ≤ 0; omega, by show (0 : Int) ≤ 1000; omega⟩)
      have ht : Nm.text ⟨false, d, 0⟩ = d := by
        unfold Nm.text
        simp [h]
      rw [ht] at hp
      exact ⟨⟨⟨by rw [hp], by rw [hp]⟩, h5⟩, h6⟩
  · rintro ⟨⟨⟨h1, h2⟩, h5⟩, h6⟩
    have hm := Nm.parse_may d
    rw [h2] at hm
    rcases hm with e | ⟨g0, g1, g2, g3, g4, _, _⟩
    · injection e with e1 e2; exact absurd e2 h
    · exact May_mayNum (.inr ⟨g0, g1, g2, g3, g4, h5, h6⟩)

end Go.Proofs.YtfolfibembplbaaGreatDoor

/- Ms: Ri Rj, in one text. -/
/- The walks of layer 3: the program's mayElements, mayMembers, mayWithin, May. -/
namespace Go.Proofs.YtfolfibembplbaaGreatDoor
open Go.RowKit Js
def MayingL (w : World) (l : List Vl) (i : Value) (wr : World) : Prop :=
  ∃ j : Nat, j ≤ l.length ∧ i = .int .i64 j ∧ mayL l = mayL (l.drop j) ∧ Below w.heap.size w wr

/-- So far the members may be, and their keys rise. -/
def OkM (m : List Js.Mem) (j : Nat) : Prop := ∀ i p, i < j → m[i]? = some p → (St.text p.1 = true ∧ p.2.may = true) ∧ ∀ q, 0 < i → m[i - 1]? = some q → Lib.compareBytes q.1 p.1 = -1
theorem rises_of : ∀ (ks : List (List UInt8)), (∀ i a b, ks[i]? = some a → ks[i + 1]? = some b → Lib.compareBytes a b = -1) → rises ks = true
  | [], _ => rfl
  | [a], _ => rfl
  | a :: b :: r, h => by
    simp only [rises, Bool.and_eq_true, decide_eq_true_eq]
    exact ⟨h 0 a b rfl rfl, rises_of (b :: r) fun i x y hx hy => h (i + 1) x y (by simpa using hx) (by simpa using hy)⟩
theorem OkM.all {m : List Js.Mem} (h : OkM m m.length) : (mayM m && rises (m.map (·.1))) = true := by
  rw [Bool.and_eq_true]
  constructor
  · rw [mayM_iff]
    intro p hp
    obtain ⟨i, hi⟩ := List.getElem?_of_mem hp
    exact (h i p (List.getElem?_eq_some_iff.1 hi).1 hi).1
  · refine rises_of _ fun i a b ha hb => ?_
    rw [List.getElem?_map] at ha hb
    cases hi : m[i]? with
    | none => rw [hi] at ha; cases ha
    | some p =>
      cases hj : m[i + 1]? with
      | none => rw [hj] at hb; cases hb
      | some q =>
        rw [hi] at ha; rw [hj] at hb
        cases ha; cases hb
        exact (h (i + 1) q (List.getElem?_eq_some_iff.1 hj).1 hj).2 p (by omega) (by simpa using hi)
theorem OkM.step {m : List Js.Mem} {j : Nat} (h : OkM m j) {p : Js.Mem} (hp : m[j]? = some p) (h1 : St.text p.1 = true) (h2 : p.2.may = true) (h3 : ∀ q, 0 < j → m[j - 1]? = some q → Lib.compareBytes q.1 p.1 = -1) : OkM m (j + 1) := by
  intro i p' hi hp'
  by_cases e : i = j
  · subst e
    rw [hp] at hp'; cases hp'
    exact ⟨⟨h1, h2⟩, h3⟩
  · exact h i p' (by omega) hp'
theorem okM_text {m : List Js.Mem} {j : Nat} {p : Js.Mem} (hp : m[j]? = some p) (h : ¬ (St.text p.1 = true ∧ p.2.may = true)) : (mayM m && rises (m.map (·.1))) = false := by
  rw [Bool.and_eq_false_iff]
  left
  rw [Bool.eq_false_iff]
  intro hm
  exact h ((mayM_iff m).1 hm p (List.mem_of_getElem? hp))
theorem okM_rise {m : List Js.Mem} {j : Nat} {p q : Js.Mem} (hj : 0 < j) (hp : m[j]? = some p) (hq : m[j - 1]? = some q) (h : ¬ Lib.compareBytes q.1 p.1 = -1) : (mayM m && rises (m.map (·.1))) = false := by
  rw [Bool.and_eq_false_iff]
  right
  rw [Bool.eq_false_iff]
  intro hm
  exact h (rises_at hm (i := j - 1) (j := j) (by omega) (by simp [hq]) (by simp [hp]))

def MayingM (w : World) (m : List Js.Mem) (i : Value) (wr : World) : Prop :=
  ∃ j : Nat, j ≤ m.length ∧ i = .int .i64 j ∧ OkM m j ∧ Below w.heap.size w wr

end Go.Proofs.YtfolfibembplbaaGreatDoor

/- The walks of layer 3: the program's mayWithin, May. -/
namespace Go.Proofs.YtfolfibembplbaaGreatDoor
open Go.RowKit Js

theorem may_parts {k : Int} {b : Bool} {n : Nm.Num} {s : List UInt8} {l : List Vl} {m : List Js.Mem} (q0 q1 q2 q3 q4 : Bool) (h0 : ownOf k b n s l.length m.length = q0) (h1 : mayNum n = q1) (h2 : St.text s = q2) (h3 : mayL l = q3) (h4 : (mayM m && rises (m.map (·.1))) = q4) :
    (Vl.mk k b n s l m).may = (q0 && q1 && q2 && q3 && q4) := by
  subst h0 h1 h2 h3 h4; rfl

end Go.Proofs.YtfolfibembplbaaGreatDoor


