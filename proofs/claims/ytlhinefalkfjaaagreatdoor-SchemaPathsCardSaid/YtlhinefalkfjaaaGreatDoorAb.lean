/- Ab: Ab Ah Ac Ad, in one text. -/
import Derived.Test.YtlhinefalkfjaaaGreatDoorAa
import Derived.Test.YtlhinefalkfjaaaGreatDoorKa
import Derived.Test.YtlhinefalkfjaaaGreatDoorPw
import Derived.Test.YtlhinefalkfjaaaGreatDoorMg
import Derived.Test.YtlhinefalkfjaaaGreatDoorJd
import Derived.Laws.MakeOwn
namespace Go.Proofs.YtlhinefalkfjaaaGreatDoor
open Go.RowKit Pt Js Oq
end Go.Proofs.YtlhinefalkfjaaaGreatDoor

namespace Go.Proofs.YtlhinefalkfjaaaGreatDoor
open Go.RowKit Pt Js Oq

abbrev opV (op : Int) (A : Option Addr) (n e : Nat) (F : Option Addr) (m d : Nat) (k : Int) (b neg : Bool) (dg : List UInt8) (ex : Int) (s : List UInt8) (lv mv : Value) : Value :=
  .agg #[.int .i64 op, .slice A n e, .slice F m d, .int .i64 k, .bool b, .bool neg, .string ⟨dg.toArray⟩, .int .i64 ex, .string ⟨s.toArray⟩, lv, mv]
def _root_.Go.Proofs.YtlhinefalkfjaaaGreatDoor.Oq.Opn.In (c : Cl) (o : Opn) (x : Value) : Prop :=
  ∃ (A : Option Addr) (e : Nat) (F : Option Addr) (d : Nat) (k : Int) (b neg : Bool) (dg : List UInt8) (ex : Int) (s : List UInt8) (A1 : Option Addr) (l1 p1 : Nat) (B1 : Option Addr) (m1 d1 : Nat),
    x = opV o.op A o.path.length e F o.src.length d k b neg dg ex s (.slice A1 l1 p1) (.slice B1 m1 d1) ∧ Strs c A o.path ∧ o.path.length ≤ e ∧ e ≤ maxLen ∧ Strs c F o.src ∧ o.src.length ≤ d ∧ d ≤ maxLen ∧
    o.v.In c (vlV k b neg dg ex s (.slice A1 l1 p1) (.slice B1 m1 d1))
section
variable {w wr w' : World} {S : Nat → Prop} {g6 : Nat} {V R O : Array Value}
end
end Go.Proofs.YtlhinefalkfjaaaGreatDoor

namespace Go.Proofs.YtlhinefalkfjaaaGreatDoor
open Go.RowKit Pt Js Oq
end Go.Proofs.YtlhinefalkfjaaaGreatDoor

namespace Go.Proofs.YtlhinefalkfjaaaGreatDoor
open Go.RowKit Pt Js Oq

def putL : List Value → Nat → List Value → List Value
  | cs, _, [] => cs
  | cs, o, v :: r => putL (cs.set o v) (o + 1) r
theorem putL_length (vs : List Value) : ∀ (cs : List Value) (o : Nat), (putL cs o vs).length = cs.length := by
  induction vs with
  | nil => intro cs o; rfl
  | cons v r ih => intro cs o; show (putL (cs.set o v) (o + 1) r).length = _; rw [ih, List.length_set]
theorem putL_off (vs : List Value) : ∀ (cs : List Value) (o : Nat) {k : Nat}, (k < o ∨ o + vs.length ≤ k) → (putL cs o vs)[k]? = cs[k]? := by
  induction vs with
  | nil => intro cs o k _; rfl
  | cons v r ih =>
    intro cs o k h
    rw [List.length_cons] at h
    show (putL (cs.set o v) (o + 1) r)[k]? = _
    rw [ih _ _ (by omega), List.getElem?_set_ne (by omega)]
theorem putL_at (vs : List Value) : ∀ (cs : List Value) (o : Nat) {i : Nat} {u : Value}, o + vs.length ≤ cs.length → vs[i]? = some u → (putL cs o vs)[o + i]? = some u := by
  induction vs with
  | nil => intro cs o i u _ h; simp at h
  | cons v r ih =>
    intro cs o i u h hu
    rw [List.length_cons] at h
    show (putL (cs.set o v) (o + 1) r)[o + i]? = _
    cases i with
    | zero =>
      simp at hu
      subst hu
      rw [putL_off _ _ _ (.inl (by omega)), Nat.add_zero, List.getElem?_set_self (by omega)]
    | succ i =>
      rw [show o + (i + 1) = o + 1 + i by omega]
      exact ih _ _ (by rw [List.length_set]; omega) (by simpa using hu)
theorem Blk.setCells {g : Nat} {t : TypeId} (vs : List Value) : ∀ {w : World} {cs : List Value} {o : Nat}, Blk w g t cs.toArray → Blk (w.setCells g o vs) g t (putL cs o vs).toArray := by
  induction vs with
  | nil => intro w cs o h; exact h
  | cons v r ih => intro w cs o h; exact ih (h.setL o v)
theorem heap_setCells {g : Nat} (vs : List Value) : ∀ (w : World) (o : Nat) {b : Nat}, b ≠ g → (w.setCells g o vs).heap[b]? = w.heap[b]? := by
  induction vs with
  | nil => intro w o b h; rfl
  | cons v r ih => intro w o b h; exact (ih _ _ h).trans (heap_setCell _ _ _ _ h)
theorem below_setCells {B g : Nat} {a : World} (hg : B ≤ g) (vs : List Value) : ∀ {w : World} {o : Nat}, Below B a w → Below B a (w.setCells g o vs) := by
  induction vs with
  | nil => intro w o h; exact h
  | cons v r ih => intro w o h; exact ih (h.setCell (p := ⟨g, o, none⟩) hg v)

section
variable {S : Nat → Prop} {w : World} {l : List Vl} {g j : Nat} {acc : List Opn} {cs : List Value} {wr w' : World}
end
end Go.Proofs.YtlhinefalkfjaaaGreatDoor


