/- Jn: Ln Jn Lk, in one text. -/
import Derived.Test.YtjjenpmahmbafaaGreatDoorJa
import Derived.Test.YtjjenpmahmbafaaGreatDoorPq
import Derived.Test.YtjjenpmahmbafaaGreatDoorWg
import Derived.KernelRfl
import Derived.Test.YtjjenpmahmbafaaGreatDoorJd
import Derived.Test.YtjjenpmahmbafaaGreatDoorMr
import Derived.Test.YtjjenpmahmbafaaGreatDoorRg
import Derived.Test.YtjjenpmahmbafaaGreatDoorSf
namespace Go.Proofs.YtjjenpmahmbafaaGreatDoor.Ed
open Js Pt

def resZ : Ch → Vl
  | .ok z => z
  | .bad _ => Ps.mkN
def resC : Ch → Nat
  | .ok _ => 0
  | .bad c => c
theorem edit_bad {op : Nat} (ns : List (List UInt8)) {x : Vl} : ∀ {v : Vl} {c : Nat}, edit op ns v x = .bad c → c = 6 ∨ c = 7 := by
  induction ns with
  | nil =>
    intro v c h
    unfold edit at h
    split at h
    · injection h with h; exact .inr h.symm
    · cases h
  | cons nm ns ih =>
    intro v c h
    cases ns with
    | nil =>
      obtain ⟨k, b, n, s, l, m⟩ := v
      have h : one op nm (.mk k b n s l m) x = .bad c := h
      rw [one_mk] at h
      split at h
      · split at h
        · cases h
        · injection h with h; exact .inl h.symm
      · split at h
        · split at h
          · cases h
          · injection h with h; exact .inl h.symm
        · injection h with h; exact .inl h.symm
    | cons a r =>
      rw [edit_more op nm (by simp), under_kid] at h
      cases hk : kid v nm with
      | none => rw [hk] at h; injection h with h; exact .inl h.symm
      | some y =>
        rw [hk] at h
        simp only at h
        cases he : edit op (a :: r) y x with
        | bad c' => rw [he] at h; injection h with h; subst h; exact ih he
        | ok z => rw [he] at h; cases h
theorem edit_six {op : Nat} (ns : List (List UInt8)) {x : Vl} : ∀ {v : Vl} {c : Nat}, ns ≠ [] → edit op ns v x = .bad c → c = 6 := by
  induction ns with
  | nil => intro v c h; exact absurd rfl h
  | cons nm ns ih =>
    intro v c _ h
    cases ns with
    | nil =>
      obtain ⟨k, b, n, s, l, m⟩ := v
      have h : one op nm (.mk k b n s l m) x = .bad c := h
      rw [one_mk] at h
      split at h
      · split at h
        · cases h
        · injection h with h; exact h.symm
      · split at h
        · split at h
          · cases h
          · injection h with h; exact h.symm
        · injection h with h; exact h.symm
    | cons a r =>
      rw [edit_more op nm (by simp), under_kid] at h
      cases hk : kid v nm with
      | none => rw [hk] at h; injection h with h; exact h.symm
      | some y =>
        rw [hk] at h
        simp only at h
        cases he : edit op (a :: r) y x with
        | bad c' => rw [he] at h; injection h with h; subst h; exact ih (by simp) he
        | ok z => rw [he] at h; cases h
def okOf : Ch → Bool
  | .ok _ => true
  | .bad _ => false

end Go.Proofs.YtjjenpmahmbafaaGreatDoor.Ed
namespace Go.Proofs.YtjjenpmahmbafaaGreatDoor
open Go.RowKit Pt Js
def EditL (S : Nat → Prop) (r : Ed.Ch) (w : World) (e : Ending) (w' : World) : Prop := ∃ y, e = .returned (.tuple #[y, .bool (Ed.okOf r)]) ∧ (Ed.resZ r).In (w'.on fun b => S b ∨ w.heap.size ≤ b) y ∧ Below w.heap.size w w'

end Go.Proofs.YtjjenpmahmbafaaGreatDoor

namespace Go.Proofs.YtjjenpmahmbafaaGreatDoor
open Go.RowKit Pt Js
end Go.Proofs.YtjjenpmahmbafaaGreatDoor

namespace Go.Proofs.YtjjenpmahmbafaaGreatDoor
open Go.RowKit Pt Js
end Go.Proofs.YtjjenpmahmbafaaGreatDoor


