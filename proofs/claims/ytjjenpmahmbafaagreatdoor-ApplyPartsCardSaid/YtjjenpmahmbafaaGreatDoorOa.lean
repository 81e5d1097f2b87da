/- Oa: Pa Pb Pc Pd, in one text. -/
import Derived.Test.YtjjenpmahmbafaaGreatDoorMm
import Derived.Test.YtjjenpmahmbafaaGreatDoorYb
import Derived.Test.YtjjenpmahmbafaaGreatDoorVb
import Derived.Lib.OthersKept
import Derived.Test.YtjjenpmahmbafaaGreatDoorNd

namespace Go.Proofs.YtjjenpmahmbafaaGreatDoor
open Go.RowKit

abbrev Kept (b : Nat) (w w' : World) : Prop := Lib.OthersKept 5 (some b) w w'
end Go.Proofs.YtjjenpmahmbafaaGreatDoor

namespace Go.Proofs.YtjjenpmahmbafaaGreatDoor
open Go.RowKit Js
theorem qc_one (c : UInt8) : 1 ≤ (St.qc c).length := by
  unfold St.qc; repeat' split
  all_goals simp
theorem qb_ge (l : List UInt8) : l.length ≤ (St.qb l).length := by
  induction l with
  | nil => simp [St.qb]
  | cons c t ih => rw [St.qb_cons, List.length_append, List.length_cons]; have := qc_one c; omega
end Go.Proofs.YtjjenpmahmbafaaGreatDoor

namespace Go.Proofs.YtjjenpmahmbafaaGreatDoor
open Go.RowKit Js

theorem shownL_len (l : List Vl) (j : Nat) (h : j < l.length) : (shownL (l.take j)).length + (1 + l[j].shown.length) ≤ (shownL l).length := by
  have e : shownL l = shownL (l.take (j + 1)) ++ shownL (l.drop (j + 1)) := by rw [← shownL_append, List.take_append_drop]
  rw [e, shownL_take l j h]
  simp only [List.length_append, List.length_cons]
  omega
theorem shownM_len (m : List Js.Mem) (j : Nat) (h : j < m.length) : (shownM (m.take j)).length + (1 + ((St.quote m[j].1).length + (m[j].2.shown.length + 1))) ≤ (shownM m).length := by
  have e : shownM m = shownM (m.take (j + 1)) ++ shownM (m.drop (j + 1)) := by rw [← shownM_append, List.take_append_drop]
  rw [e, shownM_take m j h]
  simp only [List.length_append, List.length_cons]
  omega
theorem may_at {l : List Vl} (h : mayL l = true) {j : Nat} (hj : j < l.length) : l[j].may = true := by
  have h := (mayL_iff _).1 h
  exact h _ (List.getElem_mem _)
theorem may_atM {m : List Js.Mem} (h : mayM m = true) {j : Nat} (hj : j < m.length) : m[j].2.may = true := by
  have h := (mayM_iff _).1 h
  exact (h _ (List.getElem_mem _)).2
theorem tail_len {α : Type} (l : List α) : l.tail.length = l.length - 1 := by simp

end Go.Proofs.YtjjenpmahmbafaaGreatDoor

namespace Go.Proofs.YtjjenpmahmbafaaGreatDoor
open Go.RowKit Js
end Go.Proofs.YtjjenpmahmbafaaGreatDoor

