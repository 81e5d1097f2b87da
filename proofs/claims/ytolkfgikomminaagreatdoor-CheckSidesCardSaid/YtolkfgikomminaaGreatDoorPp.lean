/- Plain mathematics of layer 6 (ptr): a pointer's text and its names; which element a name means; what stands at a pointer. -/
import Derived.Test.YtolkfgikomminaaGreatDoorMc
namespace Go.Proofs.YtolkfgikomminaaGreatDoor.Pt

inductive Res where
 | ok (l : List (List UInt8))
 | bad (p : Nat)

def push (l : List (List UInt8)) (c : UInt8) : List (List UInt8) := l.dropLast ++ [l.getLast?.getD [] ++ [c]]

def go : List UInt8 → Nat → List (List UInt8) → Res
 | [], _, l => .ok l
 | c :: t, i, l =>
  if c = 47 then go t (i + 1) (l ++ [[]])
  else if c = 126 then
   match t with
   | [] => .bad i
   | d :: t => if d = 48 then go t (i + 2) (push l 126) else if d = 49 then go t (i + 2) (push l 47) else .bad i
  else go t (i + 1) (push l c)

def parse : List UInt8 → Res
 | [] => .ok []
 | c :: t => if c = 47 then go (c :: t) 0 [] else .bad 0

def esc (c : UInt8) : List UInt8 := if c = 126 then [126, 48] else if c = 47 then [126, 49] else [c]
def name (n : List UInt8) : List UInt8 := n.flatMap esc
def text (l : List (List UInt8)) : List UInt8 := l.flatMap fun n => 47 :: name n

theorem go_cons (c : UInt8) (t : List UInt8) (i : Nat) (l : List (List UInt8)) : go (c :: t) i l =
  if c = 47 then go t (i + 1) (l ++ [[]])
  else if c = 126 then
   (match t with
   | [] => .bad i
   | d :: t => if d = 48 then go t (i + 2) (push l 126) else if d = 49 then go t (i + 2) (push l 47) else .bad i)
  else go t (i + 1) (push l c) := by
 cases t <;> rfl
theorem push_last (l : List (List UInt8)) (cur : List UInt8) (c : UInt8) : push (l ++ [cur]) c = l ++ [cur ++ [c]] := by simp [push]
theorem text_append (l m : List (List UInt8)) : text (l ++ m) = text l ++ text m := by simp [text]
theorem text_cons (n : List UInt8) (l : List (List UInt8)) : text (n :: l) = 47 :: (name n ++ text l) := by simp [text]
theorem name_append (a b : List UInt8) : name (a ++ b) = name a ++ name b := by simp [name]
theorem name_one (c : UInt8) : name [c] = esc c := by simp [name]
theorem go_esc (c : UInt8) (t : List UInt8) (i : Nat) (l : List (List UInt8)) (cur : List UInt8) : go (esc c ++ t) i (l ++ [cur]) = go t (i + (esc c).length) (l ++ [cur ++ [c]]) := by
 by_cases h1 : c = 126
 ·subst h1
  have e : esc 126 = [126, 48] := by decide
  rw [e]
  simp [go, push_last]
 ·by_cases h2 : c = 47
  ·subst h2
   have e : esc 47 = [126, 49] := by decide
   rw [e]
   simp [go, push_last]
  ·have e : esc c = [c] := by simp [esc, h1, h2]
   rw [e]
   rw [List.singleton_append, go_cons, if_neg h2, if_neg h1, push_last]
   rfl
theorem go_name (n : List UInt8) : ∀ (t : List UInt8) (i : Nat) (l : List (List UInt8)) (cur : List UInt8), go (name n ++ t) i (l ++ [cur]) = go t (i + (name n).length) (l ++ [cur ++ n]) := by
 induction n with
 | nil => intro t i l cur; simp [name]
 | cons c n ih =>
  intro t i l cur
  have e : name (c :: n) = esc c ++ name n := by simp [name]
  rw [e, List.append_assoc, go_esc, ih, List.length_append, ← Nat.add_assoc]
  simp
theorem go_text (ns : List (List UInt8)) : ∀ (t : List UInt8) (i : Nat) (l : List (List UInt8)), go (text ns ++ t) i l = go t (i + (text ns).length) (l ++ ns) := by
 induction ns with
 | nil => intro t i l; simp [text]
 | cons n ns ih =>
  intro t i l
  rw [text_cons]
  simp only [List.cons_append, List.append_assoc]
  rw [go_cons, if_pos rfl]
  have h := go_name n (text ns ++ t) (i + 1) l []
  rw [List.nil_append] at h
  rw [h, ih]
  simp only [List.length_cons, List.length_append, List.append_assoc, List.singleton_append]
  congr 1
  omega
theorem parse_text (l : List (List UInt8)) : parse (text l) = .ok l := by
 cases l with
 | nil => rfl
 | cons n l =>
  have h := go_text (n :: l) [] 0 []
  rw [List.append_nil] at h
  rw [text_cons] at h ⊢
  show (if (47 : UInt8) = 47 then go (47 :: (name n ++ text l)) 0 [] else .bad 0) = _
  rw [if_pos rfl, h]
  simp [go]

theorem esc_len (c : UInt8) : 1 ≤ (esc c).length ∧ (esc c).length ≤ 2 := by
 unfold esc; repeat' split
 all_goals simp
theorem name_len (n : List UInt8) : (name n).length ≤ 2 * n.length := by
 induction n with
 | nil => simp [name]
 | cons c n ih =>
  have e : name (c :: n) = esc c ++ name n := by simp [name]
  rw [e, List.length_append, List.length_cons]
  have := esc_len c
  omega
theorem text_len (m : Nat) (l : List (List UInt8)) (h : ∀ n ∈ l, n.length ≤ m) : (text l).length ≤ l.length * (2 * m + 1) := by
 induction l with
 | nil => simp [text]
 | cons n l ih =>
  rw [text_cons]
  have h1 := name_len n
  have h2 := h n (by simp)
  have h3 := ih (fun x hx => h x (by simp [hx]))
  simp only [List.length_cons, List.length_append]
  rw [Nat.succ_mul]
  omega
theorem text_take (l : List (List UInt8)) (j : Nat) (h : j < l.length) : text (l.take (j + 1)) = text (l.take j) ++ 47 :: name l[j] := by
 rw [List.take_succ_eq_append_getElem h, text_append, text_cons]; simp [text]
theorem name_take (n : List UInt8) (k : Nat) (h : k < n.length) : name (n.take (k + 1)) = name (n.take k) ++ esc n[k] := by
 rw [List.take_succ_eq_append_getElem h, name_append, name_one]

def index (nm : List UInt8) (n : Nat) (e : Bool) : Nat × Bool :=
 if e = true ∧ nm = [45] then (n, true)
 else if nm = [] ∨ ¬ (nm.all Nm.dig = true) ∨ (1 < nm.length ∧ nm.head? = some 48) ∨ 18 < nm.length then (0, false)
 else if Nm.val nm < n ∨ (Nm.val nm = n ∧ e = true) then (Nm.val nm, true) else (0, false)
open Js in
def get : Vl → List (List UInt8) → Option Vl
 | v, [] => some v
 | .mk k b n s l m, nm :: ns => if k = 4 then
   (match l[(index nm l.length false).1]? with
   | some x => if (index nm l.length false).2 = true then get x ns else none
   | none => none)
  else match (Vl.mk k b n s l m).find nm with
   | some x => get x ns
   | none => none

end Go.Proofs.YtolkfgikomminaaGreatDoor.Pt

