/- Ja: Ja Jr, in one text. -/
import Derived.Test.YtolkfgikomminaaGreatDoorPp
import Derived.Test.YtolkfgikomminaaGreatDoorMc
namespace Go.Proofs.YtolkfgikomminaaGreatDoor.Ed
open Js Pt
open Ps (less ins rises_iff find_isSome take_less drop_more ins_rises)

inductive Ch where
 | ok (v : Vl)
 | bad (c : Nat)

def put (m : List Mem) (nm : List UInt8) (x : Vl) : List Mem := m.takeWhile (less nm) ++ (nm, x) :: (m.dropWhile (less nm)).filter fun p => decide (p.1 ≠ nm)
def del (m : List Mem) (nm : List UInt8) : List Mem := m.filter fun p => decide (p.1 ≠ nm)
def upd (m : List Mem) (nm : List UInt8) (z : Vl) : List Mem := m.map fun p => if p.1 = nm then (p.1, z) else p

def inL (op : Nat) (l : List Vl) (i : Nat) (x : Vl) : List Vl := if op = 1 then l.take i ++ x :: l.drop i else if op = 2 then l.eraseIdx i else l.set i x
def one (op : Nat) (nm : List UInt8) : Vl → Vl → Ch
 | .mk k b n s l m, x =>
  if k = 4 then (if (index nm l.length (decide (op = 1))).2 = true then .ok (.mk k b n s (inL op l (index nm l.length (decide (op = 1))).1 x) []) else .bad 6)
  else if k = 5 then (if op = 1 ∨ (Js.find m nm).isSome = true then .ok (.mk k b n s [] (if op = 2 then del m nm else put m nm x)) else .bad 6)
  else .bad 6
def under (nm : List UInt8) (f : Vl → Ch) : Vl → Ch
 | .mk k b n s l m =>
  if k = 4 then (match (if (index nm l.length false).2 = true then l[(index nm l.length false).1]? else none) with
   | some y => (match f y with | .ok z => .ok (.mk k b n s (l.set (index nm l.length false).1 z) []) | .bad c => .bad c)
   | none => .bad 6)
  else if k = 5 then (match Js.find m nm with
   | some y => (match f y with | .ok z => .ok (.mk k b n s [] (upd m nm z)) | .bad c => .bad c)
   | none => .bad 6)
  else .bad 6
def kid : Vl → List UInt8 → Option Vl
 | .mk k b n s l m, nm => if k = 4 then (if (index nm l.length false).2 = true then l[(index nm l.length false).1]? else none) else (Vl.mk k b n s l m).find nm
theorem kid_mk (k : Int) (b : Bool) (n : Nm.Num) (s : List UInt8) (l : List Vl) (m : List Mem) (nm : List UInt8) :
  kid (.mk k b n s l m) nm = if k = 4 then (if (index nm l.length false).2 = true then l[(index nm l.length false).1]? else none) else (Vl.mk k b n s l m).find nm := rfl
theorem get_kid (v : Vl) (nm : List UInt8) (ns : List (List UInt8)) : get v (nm :: ns) = (kid v nm).bind fun y => get y ns := by
 obtain ⟨k, b, n, s, l, m⟩ := v
 rw [kid_mk]
 show (if k = 4 then
   (match l[(index nm l.length false).1]? with
   | some x => if (index nm l.length false).2 = true then get x ns else none
   | none => none)
  else match (Vl.mk k b n s l m).find nm with
   | some x => get x ns
   | none => none) = _
 by_cases hk : k = 4
 ·rw [if_pos hk, if_pos hk]
  by_cases hi : (index nm l.length false).2 = true
  ·rw [if_pos hi]
   cases l[(index nm l.length false).1]? with
   | none => rfl
   | some x => simp only; rw [if_pos hi]; rfl
  ·rw [if_neg hi]
   cases l[(index nm l.length false).1]? with
   | none => rfl
   | some x => simp only; rw [if_neg hi]; rfl
 ·rw [if_neg hk, if_neg hk]
  cases (Vl.mk k b n s l m).find nm <;> rfl

theorem ne_of_less {a b : List UInt8} (h : Lib.compareBytes a b = -1) : a ≠ b := by
 rintro rfl
 rw [Nm.bytes_self] at h
 omega
end Go.Proofs.YtolkfgikomminaaGreatDoor.Ed

namespace Go.Proofs.YtolkfgikomminaaGreatDoor.Ed
open Js Pt
theorem find_five {k : Int} {b : Bool} {n : Nm.Num} {s : List UInt8} {l : List Vl} {m : List Mem} {nm : List UInt8} : (Vl.mk k b n s l m).find nm = if k = 5 then Js.find m nm else none := rfl
end Go.Proofs.YtolkfgikomminaaGreatDoor.Ed

namespace Go.Proofs.YtolkfgikomminaaGreatDoor.Ed
open Js Pt
open Ps (sizeM_append sizeL_append)

def kindOf : Vl → Int
 | .mk k _ _ _ _ _ => k
def listOf : Vl → List Vl
 | .mk _ _ _ _ l _ => l

def good (nm : List UInt8) : Prop := ¬ (nm = [] ∨ ¬ (nm.all Nm.dig = true) ∨ (1 < nm.length ∧ nm.head? = some 48) ∨ 18 < nm.length)
theorem good_dash : ¬ good [45] := fun h => h (.inr (.inl (by decide)))
theorem index_num {nm : List UInt8} {n : Nat} {e : Bool} (h : ¬ (e = true ∧ nm = [45])) (hg : good nm) : index nm n e = if Nm.val nm < n ∨ (Nm.val nm = n ∧ e = true) then (Nm.val nm, true) else (0, false) := by
 unfold index
 rw [if_neg h, if_neg hg]
theorem index_true {nm : List UInt8} {n : Nat} {e : Bool} (h : (index nm n e).2 = true) : (e = true ∧ nm = [45] ∧ (index nm n e).1 = n) ∨ (nm ≠ [45] ∧ good nm ∧ (index nm n e).1 = Nm.val nm ∧ (Nm.val nm < n ∨ (Nm.val nm = n ∧ e = true))) := by
 by_cases h0 : e = true ∧ nm = [45]
 ·exact .inl ⟨h0.1, h0.2, by unfold index; rw [if_pos h0]⟩
 ·by_cases hg : good nm
  ·rw [index_num h0 hg] at h ⊢
   split at h
   ·rename_i hv
    refine .inr ⟨fun e => by rw [e] at hg; exact good_dash hg, hg, by rw [if_pos hv], hv⟩
   ·cases h
  ·unfold index at h
   rw [if_neg h0, if_pos (Classical.not_not.1 hg)] at h
   cases h
theorem index_at_num {nm : List UInt8} {n : Nat} (hg : good nm) (h : Nm.val nm < n) (e : Bool) : index nm n e = (Nm.val nm, true) := by
 rw [index_num (fun h => by rw [h.2] at hg; exact good_dash hg) hg, if_pos (.inl h)]
theorem dec_len (k : Nat) : ∀ u, u < 10 ^ (k + 1) → (Lib.decDigits u).length ≤ k + 1 := by
 induction k with
 | zero => intro u h; rw [Lib.decDigits, dif_pos (by simpa using h)]; simp
 | succ k ih =>
  intro u h
  rw [Lib.decDigits]
  split
  ·simp
  ·rw [List.length_append]
   have := ih (u / 10) (by rw [Nat.div_lt_iff_lt_mul (by omega), ← Nat.pow_succ]; exact h)
   simp; omega
theorem dec_good (u : Nat) (h : u ≤ 1000000) : good (Lib.decDigits u) := by
 rintro (h1 | h1 | ⟨h1, h2⟩ | h1)
 ·exact Nm.dec_ne u h1
 ·exact h1 (List.all_eq_true.2 (Nm.dec_dig u))
 ·by_cases h0 : u = 0
  ·subst h0
   rw [Lib.decDigits, dif_pos (by decide)] at h1
   simp at h1
  ·exact Nm.dec_head u h0 h2
 ·have := dec_len 6 u (by omega)
  omega
end Go.Proofs.YtolkfgikomminaaGreatDoor.Ed

namespace Go.Proofs.YtolkfgikomminaaGreatDoor.Ed
open Js Pt
open Ps (less)

theorem sizeL_append (a b : List Vl) : sizeL (a ++ b) = sizeL a + sizeL b := by
 induction a with
 | nil => simp [sizeL]
 | cons v a ih => simp only [List.cons_append, sizeL, ih]; omega
theorem sizeM_append (a b : List Mem) : sizeM (a ++ b) = sizeM a + sizeM b := by
 induction a with
 | nil => simp [sizeM]
 | cons v a ih => simp only [List.cons_append, sizeM, ih]; omega
end Go.Proofs.YtolkfgikomminaaGreatDoor.Ed


