/- Jn: Ln Jn Lk, in one text. -/
import Derived.Test.YtkhplaknogalgaaDoorJa
import Derived.Test.YtkhplaknogalgaaDoorPq
import Derived.Test.YtkhplaknogalgaaDoorWg
import Derived.KernelRfl
import Derived.Test.YtkhplaknogalgaaDoorJd
import Derived.Test.YtkhplaknogalgaaDoorMr
import Derived.Test.YtkhplaknogalgaaDoorRg
import Derived.Test.YtkhplaknogalgaaDoorPg
/- Layer 7 (edit): what an edit tells, in the form that the laws want; what the program's functions are to do. -/
namespace Go.Proofs.YtkhplaknogalgaaDoor.Ed
open Js Pt

/-- The value that is told, and the error's number. -/
def resZ : Ch → Vl
  | .ok z => z
  | .bad _ => Ps.mkN
def resC : Ch → Nat
  | .ok _ => 0
  | .bad c => c
theorem edit_bad {op : Nat} (ns : List (List UInt8)) {x : Vl} : ∀ {v : Vl} {c : Nat}, edit op ns v x = .bad c → c = 6 ∨ c = 7 := by
  induction ns with
  | nil =>
    intro v c h
    unfold edit at h
    split at h
    · injection h with h; exact .inr h.symm
    · cases h
  | cons nm ns ih =>
    intro v c h
    cases ns with
    | nil =>
      obtain ⟨k, b, n, s, l, m⟩ := v
      have h : one op nm (.mk k b n s l m) x = .bad c := h
      rw [one_mk] at h
      split at h
      · split at h
        · cases h
        · injection h with h; exact .inl h.symm
      · split at h
        · split at h
          · cases h
          · injection h with h; exact .inl h.symm
        · injection h with h; exact .inl h.symm
    | cons a r =>
      rw [edit_more op nm (by simp), under_kid] at h
      cases hk : kid v nm with
      | none => rw [hk] at h; injection h with h; exact .inl h.symm
      | some y =>
        rw [hk] at h
        simp only at h
        cases he : edit op (a :: r) y x with
        | bad c' => rw [he] at h; injection h with h; subst h; exact ih he
        | ok z => rw [he] at h; cases h
theorem resC_le (op : Nat) (ns : List (List UInt8)) (v x : Vl) : resC (edit op ns v x) ≤ 14 := by
  cases h : edit op ns v x with
  | ok z => show 0 ≤ 14; omega
  | bad c => have := edit_bad ns h; show c ≤ 14; omega
theorem edit_six {op : Nat} (ns : List (List UInt8)) {x : Vl} : ∀ {v : Vl} {c : Nat}, ns ≠ [] → edit op ns v x = .bad c → c = 6 := by
  induction ns with
  | nil => intro v c h; exact absurd rfl h
  | cons nm ns ih =>
    intro v c _ h
    cases ns with
    | nil =>
      obtain ⟨k, b, n, s, l, m⟩ := v
      have h : one op nm (.mk k b n s l m) x = .bad c := h
      rw [one_mk] at h
      split at h
      · split at h
        · cases h
        · injection h with h; exact h.symm
      · split at h
        · split at h
          · cases h
          · injection h with h; exact h.symm
        · injection h with h; exact h.symm
    | cons a r =>
      rw [edit_more op nm (by simp), under_kid] at h
      cases hk : kid v nm with
      | none => rw [hk] at h; injection h with h; exact h.symm
      | some y =>
        rw [hk] at h
        simp only at h
        cases he : edit op (a :: r) y x with
        | bad c' => rw [he] at h; injection h with h; subst h; exact ih (by simp) he
        | ok z => rw [he] at h; cases h
/-- What is removed does not hang on what would have been put. -/
theorem edit_two (ns : List (List UInt8)) (x x' : Vl) : ∀ v, edit 2 ns v x = edit 2 ns v x' := by
  induction ns with
  | nil => intro v; rfl
  | cons nm ns ih =>
    intro v
    cases ns with
    | nil =>
      obtain ⟨k, b, n, s, l, m⟩ := v
      show one 2 nm _ x = one 2 nm _ x'
      have e : ∀ i (z : Vl), inL 2 l i z = l.eraseIdx i := fun i z => by unfold inL; rw [if_neg (by decide), if_pos rfl]
      rw [one_mk, one_mk]
      simp only [e, if_true]
    | cons a r =>
      rw [edit_more 2 nm (by simp), edit_more 2 nm (by simp), under_kid, under_kid]
      cases kid v nm with
      | none => rfl
      | some y => simp only [ih y]
theorem ex_one : Ps.parse [91, 49, 93] = .ok (Ps.mkA [Ps.mkD ⟨false, [49], 0⟩]) [] := by kernel_rfl
theorem ex_two : Ps.parse [91, 49, 44, 110, 117, 108, 108, 93] = .ok (Ps.mkA [Ps.mkD ⟨false, [49], 0⟩, Ps.mkN]) [] := by kernel_rfl
theorem ex_add : edit 1 [[45]] (Ps.mkA [Ps.mkD ⟨false, [49], 0⟩]) Ps.mkN = .ok (Ps.mkA [Ps.mkD ⟨false, [49], 0⟩, Ps.mkN]) := by kernel_rfl
theorem ex_neat : neat (Ps.mkA [Ps.mkD ⟨false, [49], 0⟩]) = true := by kernel_rfl
theorem ex_null : neat Ps.mkN = true := by kernel_rfl


/-- Whether something was told. -/
def okOf : Ch → Bool
  | .ok _ => true
  | .bad _ => false

end Go.Proofs.YtkhplaknogalgaaDoor.Ed
namespace Go.Proofs.YtkhplaknogalgaaDoor
open Go.RowKit Pt Js

def EditE (r : Ed.Ch) (w : World) (e : Ending) (w' : World) : Prop := ∃ y, e = .returned (.tuple #[y, errV (Ed.resC r)]) ∧ (Ed.resZ r).In w'.cell? y ∧ Below w.heap.size w w'
/-- What is handed to an edit. -/
structure Handed (v x : Vl) (ns : List (List UInt8)) (xv xx : Value) (A : Option Addr) (e : Nat) (w : World) : Prop where
  hv : v.In w.cell? xv
  hx : x.In w.cell? xx
  hs : Strs w.cell? A ns
  he : ns.length ≤ e
  hm : e ≤ maxLen
  hA : A = none → ns.length = 0 ∧ e = 0
  hl : ns.length ≤ 1000000
  hns : ∀ n ∈ ns, n.length ≤ 1000000
  hne : Ed.neat v = true
  hnx : Ed.neat x = true
  hsz : v.size ≤ 1000000
  hsx : x.size ≤ 1000000
theorem Handed.keep {v x : Vl} {ns : List (List UInt8)} {xv xx : Value} {A : Option Addr} {e : Nat} {w w' : World} (h : Handed v x ns xv xx A e w) (hb : Below w.heap.size w w') : Handed v x ns xv xx A e w' :=
  ⟨In.keep (le_below hb) _ _ h.hv, In.keep (le_below hb) _ _ h.hx, h.hs.keep (le_below hb), h.he, h.hm, h.hA, h.hl, h.hns, h.hne, h.hnx, h.hsz, h.hsx⟩
/-- What one change tells. -/
def EditL (S : Nat → Prop) (r : Ed.Ch) (w : World) (e : Ending) (w' : World) : Prop := ∃ y, e = .returned (.tuple #[y, .bool (Ed.okOf r)]) ∧ (Ed.resZ r).In (w'.on fun b => S b ∨ w.heap.size ≤ b) y ∧ Below w.heap.size w w'

end Go.Proofs.YtkhplaknogalgaaDoor

/- The laws of layer 7 (edit): up. -/
namespace Go.Proofs.YtkhplaknogalgaaDoor
open Go.RowKit Pt Js

theorem strs_one {w : World} {g : Nat} {s : Array UInt8} (h : Blk w g 9 #[.string ⟨s⟩]) : Strs w.cell? (some ⟨g, 0, none⟩) [s.toList] := by
  intro i n hi
  have hl := (List.getElem?_eq_some_iff.1 hi).1
  have h0 : i = 0 := by simpa using hl
  subst h0
  have hn : n = s.toList := by simpa using hi.symm
  subst hn
  exact ⟨g, 0, rfl, h.cell 0⟩
theorem EditE.ok {r : Ed.Ch} {z : Vl} {w w' : World} {e : Ending} (h : EditE r w e w') (hr : r = .ok z) : ∃ y, e = .returned (.tuple #[y, .nilIface]) ∧ z.In w'.cell? y ∧ Below w.heap.size w w' := by
  subst hr; exact h
theorem EditE.bad {r : Ed.Ch} {c : Nat} {w w' : World} {e : Ending} (h : EditE r w e w') (hr : r = .bad c) (hc : c = 6 ∨ c = 7) : ∃ y, e = .returned (.tuple #[y, .iface 56 (.int .i64 c)]) ∧ Ps.mkN.In w'.cell? y ∧ Below w.heap.size w w' := by
  subst hr
  rcases hc with rfl | rfl
  · exact h
  · exact h

end Go.Proofs.YtkhplaknogalgaaDoor

/- Layer 7 (edit): what the document's Edit is to do, in the form that the laws want. -/
namespace Go.Proofs.YtkhplaknogalgaaDoor
open Go.RowKit Pt Js

/-- What the document's Edit tells; what the program's functions tell. -/
def EditS (r : Ed.Ch) (w : World) (e : Ending) (w' : World) : Prop := ∃ y, e = .returned (.tuple #[y, .int .i64 (Ed.resC r)]) ∧ (Ed.resZ r).In w'.cell? y ∧ Below w.heap.size w w'
/-- What the document's Edit is to do. -/
structure RefT : Prop where
  edit : ∀ (op : Nat) (_ : op = 1 ∨ op = 2 ∨ op = 3) {v x : Vl} {ns : List (List UInt8)} {xv xx : Value} {A : Option Addr} {e : Nat} {w : World}, Handed v x ns xv xx A e w →
    Calls Tryd.prog 13 #[.int .i64 op, xv, .slice A ns.length e, xx] w (EditS (Ed.edit op ns v x) w)

end Go.Proofs.YtkhplaknogalgaaDoor


