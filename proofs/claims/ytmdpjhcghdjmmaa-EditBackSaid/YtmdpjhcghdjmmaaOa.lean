/- Oa: Pa Pb Pc Pd, in one text. -/
import Derived.Test.YtmdpjhcghdjmmaaMm
import Derived.Test.YtmdpjhcghdjmmaaYb
import Derived.Test.YtmdpjhcghdjmmaaVb
import Derived.Lib.OthersKept
import Derived.Test.YtmdpjhcghdjmmaaNd

/- The walks of layer 5 (show), first part: the Builder's writing methods, and what they keep above the builder. -/
namespace Go.Proofs.Ytmdpjhcghdjmmaa
open Go.RowKit

/-- Every block but the builder's and rows of bytes is as it was. -/
abbrev Kept (b : Nat) (w w' : World) : Prop := Lib.OthersKept 5 (some b) w w'
theorem kept_below {b : Nat} {a w w' : World} (h : Kept b a w) (hb : Below w.heap.size w w') : Kept b a w' := by
  intro k x hk hn hx
  have h1 := h k x hk hn hx
  rw [hb.block k (Array.getElem?_eq_some_iff.1 h1).1]
  exact h1
theorem own_kind {B : Nat} {e : TypeId} {k n : Nat} {v : Value} {bs : List Value} {w : World} (h : w.ownsRow B e k v n bs) : ∀ g, v.ownBlock = some g → ∃ c fz, w.heap[g]? = some (.cells c e fz) := by
  rintro g hg
  rcases h.2 with ⟨hv, _⟩ | ⟨g', cap, cur, hv, _, hcur, _⟩
  · subst hv; simp [Value.ownBlock] at hg
  · subst hv
    simp [Value.ownBlock] at hg
    subst hg
    exact ⟨_, _, hcur⟩

end Go.Proofs.Ytmdpjhcghdjmmaa

/- The walks of layer 5 (show), second part: what the writing functions hold to; a member's; a list's. -/
namespace Go.Proofs.Ytmdpjhcghdjmmaa
open Go.RowKit Js
theorem qc_one (c : UInt8) : 1 ≤ (St.qc c).length := by
  unfold St.qc; repeat' split
  all_goals simp
theorem qb_ge (l : List UInt8) : l.length ≤ (St.qb l).length := by
  induction l with
  | nil => simp [St.qb]
  | cons c t ih => rw [St.qb_cons, List.length_append, List.length_cons]; have := qc_one c; omega
theorem le_low {B : Nat} {w w' : World} (h : Below B w w') : Cl.le (w.on (· < B)) (w'.on (· < B)) := fun p u hp => by
  obtain ⟨h1, h2⟩ := on_some.1 hp
  exact on_some.2 ⟨h1, (h.cell h1).trans h2⟩

end Go.Proofs.Ytmdpjhcghdjmmaa

/- The walks of layer 5 (show), third part: writeList, at values and at members. (By gen_wlist.py.) -/
namespace Go.Proofs.Ytmdpjhcghdjmmaa
open Go.RowKit Js

theorem shownL_len (l : List Vl) (j : Nat) (h : j < l.length) : (shownL (l.take j)).length + (1 + l[j].shown.length) ≤ (shownL l).length := by
  have e : shownL l = shownL (l.take (j + 1)) ++ shownL (l.drop (j + 1)) := by rw [← shownL_append, List.take_append_drop]
  rw [e, shownL_take l j h]
  simp only [List.length_append, List.length_cons]
  omega
theorem shownM_len (m : List Js.Mem) (j : Nat) (h : j < m.length) : (shownM (m.take j)).length + (1 + ((St.quote m[j].1).length + (m[j].2.shown.length + 1))) ≤ (shownM m).length := by
  have e : shownM m = shownM (m.take (j + 1)) ++ shownM (m.drop (j + 1)) := by rw [← shownM_append, List.take_append_drop]
  rw [e, shownM_take m j h]
  simp only [List.length_append, List.length_cons]
  omega
theorem may_at {l : List Vl} (h : mayL l = true) {j : Nat} (hj : j < l.length) : l[j].may = true := by
  have h := (mayL_iff _).1 h
  exact h _ (List.getElem_mem _)
theorem may_atM {m : List Js.Mem} (h : mayM m = true) {j : Nat} (hj : j < m.length) : m[j].2.may = true := by
  have h := (mayM_iff _).1 h
  exact (h _ (List.getElem_mem _)).2
theorem tail_len {α : Type} (l : List α) : l.tail.length = l.length - 1 := by simp

end Go.Proofs.Ytmdpjhcghdjmmaa

/- The walks of layer 5 (show), fourth part: write, and Show. -/
namespace Go.Proofs.Ytmdpjhcghdjmmaa
open Go.RowKit Js

theorem word_null : (⟨#[110, 117, 108, 108]⟩ : ByteArray) = ⟨([110, 117, 108, 108] : List UInt8).toArray⟩ := rfl
theorem bool_shown (b : Bool) : Lib.formatBool b = if b then [116, 114, 117, 101] else [102, 97, 108, 115, 101] := by cases b <;> rfl

theorem shown_ne {v : Vl} (h : v.may = true) : v.shown ≠ [] := by
  obtain ⟨c, t, e, _⟩ := Ps.shown_first h
  rw [e]; exact List.cons_ne_nil _ _

end Go.Proofs.Ytmdpjhcghdjmmaa

