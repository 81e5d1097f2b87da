/- Da: Da Db Dd, in one text. -/
import Derived.Test.YtolkfgikomminaaGreatDoorCa
import Derived.Test.YtolkfgikomminaaGreatDoorJa
namespace Go.Proofs.YtolkfgikomminaaGreatDoor.Cm
open Js Pt

abbrev Names := List (List UInt8)
structure Key where
 name : List UInt8
 v : Vl
 kids : List (List UInt8 × Nat)
structure Node where
 at_ : Names
 all : Bool
 pass : Bool
 keys : List Key
inductive Res (α : Type) where
 | ok (a : α)
 | bad (c : Nat) (p : Names)

def kidsN (nd : Nat → Names → Vl → Res (List Node)) (single : Bool) (under : Names) : Nat → List Mem → Res (List (List UInt8 × Nat) × List Node)
 | _, [] => .ok ([], [])
 | off, (key, u) :: r => match nd off (if single = true then under else under ++ [key]) u with
  | .bad c p => .bad c p
  | .ok a => match kidsN nd single under (off + a.length) r with
   | .bad c p => .bad c p
   | .ok (ks, b) => .ok ((key, off) :: ks, a ++ b)
def memsN (nd : Nat → Names → Vl → Res (List Node)) (P : Names) : Nat → List Mem → Res (List Key × List Node)
 | _, [] => .ok ([], [])
 | off, (nm, w) :: r => if Sh.shape nm w = 0 then match kidsN nd (Sh.single nm) (P ++ [nm]) off (Sh.kids nm w) with
   | .bad c p => .bad c p
   | .ok (ks, a) => match memsN nd P (off + a.length) r with
    | .bad c p => .bad c p
    | .ok (keys, b) => .ok (⟨nm, w, ks⟩ :: keys, a ++ b)
  else .bad (Sh.shape nm w) (P ++ [nm])
def node : Nat → Nat → Names → Vl → Res (List Node)
 | 0, _, P, _ => .bad 5 P
 | f + 1, off, P, .mk k b _ _ _ m => if off = 200 then .bad 5 P else match memsN (node f) P (off + 1) m with
  | .bad c p => .bad c p
  | .ok (keys, a) => .ok (⟨P, decide (k = 1), b, keys⟩ :: a)
def compile (v : Vl) : Res (List Node) := if Sh.isSch v = true then node v.size 0 [] v else .bad 14 []

theorem kids_size {nm : List UInt8} {w : Vl} {p : Mem} (h : p ∈ Sh.kids nm w) : p.2.size ≤ w.size := by
 obtain ⟨k, b, n, s, l, m⟩ := w
 rw [Sh.kids_mk] at h
 split at h
 ·obtain rfl := List.mem_singleton.1 h; exact Nat.le_refl _
 ·split at h
  ·have := sizeM_mem h; simp only [Vl.size]; omega
  ·split at h
   ·obtain ⟨i, hi⟩ := List.getElem?_of_mem h
    obtain ⟨v, hv, rfl⟩ := Sh.numbered_get hi
    have := sizeL_mem (List.mem_of_getElem? hv)
    simp only [Vl.size]; omega
   ·cases h
theorem kidsN_cons {nd : Nat → Names → Vl → Res (List Node)} {single : Bool} {under : Names} {off : Nat} {key : List UInt8} {u : Vl} {r : List Mem} {ks : List (List UInt8 × Nat)} {a : List Node} (h : kidsN nd single under off ((key, u) :: r) = .ok (ks, a)) :
  ∃ a1 ks2 a2, nd off (if single = true then under else under ++ [key]) u = .ok a1 ∧ kidsN nd single under (off + a1.length) r = .ok (ks2, a2) ∧ ks = (key, off) :: ks2 ∧ a = a1 ++ a2 := by
 rw [kidsN] at h
 cases h1 : nd off (if single = true then under else under ++ [key]) u with
 | bad c p => rw [h1] at h; cases h
 | ok a1 =>
  rw [h1] at h
  simp only at h
  cases h2 : kidsN nd single under (off + a1.length) r with
  | bad c p => rw [h2] at h; cases h
  | ok x =>
   obtain ⟨ks2, a2⟩ := x
   rw [h2] at h
   simp only [Res.ok.injEq, Prod.mk.injEq] at h
   exact ⟨a1, ks2, a2, rfl, h2, h.1.symm, h.2.symm⟩
theorem memsN_cons {nd : Nat → Names → Vl → Res (List Node)} {P : Names} {off : Nat} {nm : List UInt8} {w : Vl} {r : List Mem} {keys : List Key} {a : List Node} (h : memsN nd P off ((nm, w) :: r) = .ok (keys, a)) :
  Sh.shape nm w = 0 ∧ ∃ ks a1 keys2 a2, kidsN nd (Sh.single nm) (P ++ [nm]) off (Sh.kids nm w) = .ok (ks, a1) ∧ memsN nd P (off + a1.length) r = .ok (keys2, a2) ∧ keys = ⟨nm, w, ks⟩ :: keys2 ∧ a = a1 ++ a2 := by
 rw [memsN] at h
 split at h
 ·rename_i h0
  refine ⟨h0, ?_⟩
  cases h1 : kidsN nd (Sh.single nm) (P ++ [nm]) off (Sh.kids nm w) with
  | bad c p => rw [h1] at h; cases h
  | ok x =>
   obtain ⟨ks, a1⟩ := x
   rw [h1] at h
   simp only at h
   cases h2 : memsN nd P (off + a1.length) r with
   | bad c p => rw [h2] at h; cases h
   | ok x =>
    obtain ⟨keys2, a2⟩ := x
    rw [h2] at h
    simp only [Res.ok.injEq, Prod.mk.injEq] at h
    exact ⟨ks, a1, keys2, a2, rfl, h2, h.1.symm, h.2.symm⟩
 ·cases h
theorem node_inv {f off : Nat} {P : Names} {k : Int} {b : Bool} {n : Nm.Num} {s : List UInt8} {l : List Vl} {m : List Mem} {a : List Node} (h : node (f + 1) off P (.mk k b n s l m) = .ok a) :
  ¬ off = 200 ∧ ∃ keys r, memsN (node f) P (off + 1) m = .ok (keys, r) ∧ a = ⟨P, decide (k = 1), b, keys⟩ :: r := by
 rw [node] at h
 split at h
 ·cases h
 ·rename_i h0
  refine ⟨h0, ?_⟩
  cases h1 : memsN (node f) P (off + 1) m with
  | bad c p => rw [h1] at h; cases h
  | ok x =>
   obtain ⟨keys, r⟩ := x
   rw [h1] at h
   simp only [Res.ok.injEq] at h
   exact ⟨keys, r, rfl, h.symm⟩
theorem memsN_len {nd : Nat → Names → Vl → Res (List Node)} {P : Names} : ∀ {m : List Mem} {off : Nat} {keys : List Key} {a : List Node}, memsN nd P off m = .ok (keys, a) → keys.length = m.length
 | [], _, _, _, h => by rw [memsN] at h; injection h with h; injection h with h1 h2; subst h1; rfl
 | (nm, w) :: r, off, keys, a, h => by
  obtain ⟨_, ks, a1, keys2, a2, _, h2, rfl, _⟩ := memsN_cons h
  rw [List.length_cons, List.length_cons, memsN_len h2]
theorem kidsN_room {nd : Nat → Names → Vl → Res (List Node)} (hnd : ∀ off P u a, off ≤ 200 → nd off P u = .ok a → off + a.length ≤ 200) {single : Bool} {under : Names} : ∀ {l : List Mem} {off : Nat} {ks : List (List UInt8 × Nat)} {a : List Node}, off ≤ 200 → kidsN nd single under off l = .ok (ks, a) → off + a.length ≤ 200
 | [], off, ks, a, h, e => by rw [kidsN] at e; injection e with e; injection e with e1 e2; subst e2; exact h
 | (key, u) :: r, off, ks, a, h, e => by
  obtain ⟨a1, ks2, a2, h1, h2, _, rfl⟩ := kidsN_cons e
  have := hnd _ _ _ _ h h1
  have := kidsN_room hnd this h2
  rw [List.length_append]; omega
theorem memsN_room {nd : Nat → Names → Vl → Res (List Node)} (hnd : ∀ off P u a, off ≤ 200 → nd off P u = .ok a → off + a.length ≤ 200) {P : Names} : ∀ {m : List Mem} {off : Nat} {keys : List Key} {a : List Node}, off ≤ 200 → memsN nd P off m = .ok (keys, a) → off + a.length ≤ 200
 | [], off, keys, a, h, e => by rw [memsN] at e; injection e with e; injection e with e1 e2; subst e2; exact h
 | (nm, w) :: r, off, keys, a, h, e => by
  obtain ⟨_, ks, a1, keys2, a2, h1, h2, _, rfl⟩ := memsN_cons e
  have := kidsN_room hnd h h1
  have := memsN_room hnd this h2
  rw [List.length_append]; omega
theorem node_room (f : Nat) : ∀ off P u a, off ≤ 200 → node f off P u = .ok a → off + a.length ≤ 200 := by
 induction f with
 | zero => intro off P u a _ h; cases h
 | succ f ih =>
  intro off P u a ho h
  obtain ⟨k, b, n, s, l, m⟩ := u
  obtain ⟨h0, keys, r, h1, rfl⟩ := node_inv h
  have := memsN_room ih (by omega) h1
  rw [List.length_cons]; omega

def kidNos (a : List Node) : List Nat := a.flatMap fun N => N.keys.flatMap fun k => k.kids.map (·.2)
def keyNos (keys : List Key) : List Nat := keys.flatMap fun k => k.kids.map (·.2)
theorem kidNos_append (a b : List Node) : kidNos (a ++ b) = kidNos a ++ kidNos b := by simp [kidNos]
theorem kidNos_cons (P : Names) (x y : Bool) (keys : List Key) (a : List Node) : kidNos (⟨P, x, y, keys⟩ :: a) = keyNos keys ++ kidNos a := by simp [kidNos, keyNos]
def one (lo hi n : Nat) : Nat := if lo ≤ n ∧ n < hi then 1 else 0
theorem one_split {lo mid hi n : Nat} (h1 : lo ≤ mid) (h2 : mid ≤ hi) : one lo hi n = one lo mid n + one mid hi n := by
 unfold one
 split <;> split <;> split <;> omega
def Once (off : Nat) (a : List Node) : Prop := ∀ n, (kidNos a).count n = one (off + 1) (off + a.length) n
theorem kidsN_once {nd : Nat → Names → Vl → Res (List Node)} (hnd : ∀ off P u a, nd off P u = .ok a → 0 < a.length ∧ Once off a) {single : Bool} {under : Names} : ∀ {l : List Mem} {off : Nat} {ks : List (List UInt8 × Nat)} {a : List Node}, kidsN nd single under off l = .ok (ks, a) → ∀ n, (ks.map (·.2)).count n + (kidNos a).count n = one off (off + a.length) n
 | [], off, ks, a, e, n => by
  rw [kidsN] at e; injection e with e; injection e with e1 e2; subst e1 e2
  unfold one; rw [if_neg (by simp)]; rfl
 | (key, u) :: r, off, ks, a, e, n => by
  obtain ⟨a1, ks2, a2, h1, h2, rfl, rfl⟩ := kidsN_cons e
  obtain ⟨hp, ho⟩ := hnd _ _ _ _ h1
  have h3 := kidsN_once hnd h2 n
  have h4 := ho n
  rw [kidNos_append, List.count_append, List.length_append, List.map_cons, List.count_cons]
  rw [one_split (mid := off + a1.length) (by omega) (by omega), one_split (lo := off) (mid := off + 1) (hi := off + a1.length) (by omega) (by omega)]
  have h5 : one off (off + 1) n = if ((key, off) : List UInt8 × Nat).2 == n then 1 else 0 := by
   unfold one
   by_cases e : off = n
   ·subst e; simp
   ·rw [if_neg (by omega), if_neg (by simpa using e)]
  rw [show off + (a1.length + a2.length) = off + a1.length + a2.length by omega]
  omega
theorem memsN_once {nd : Nat → Names → Vl → Res (List Node)} (hnd : ∀ off P u a, nd off P u = .ok a → 0 < a.length ∧ Once off a) {P : Names} : ∀ {m : List Mem} {off : Nat} {keys : List Key} {a : List Node}, memsN nd P off m = .ok (keys, a) → ∀ n, (keyNos keys).count n + (kidNos a).count n = one off (off + a.length) n
 | [], off, keys, a, e, n => by
  rw [memsN] at e; injection e with e; injection e with e1 e2; subst e1 e2
  unfold one; rw [if_neg (by simp)]; rfl
 | (nm, w) :: r, off, keys, a, e, n => by
  obtain ⟨_, ks, a1, keys2, a2, h1, h2, rfl, rfl⟩ := memsN_cons e
  have h3 := kidsN_once hnd h1 n
  have h4 := memsN_once hnd h2 n
  rw [kidNos_append, List.count_append, List.length_append, show keyNos (⟨nm, w, ks⟩ :: keys2) = ks.map (·.2) ++ keyNos keys2 by simp [keyNos], List.count_append]
  rw [one_split (mid := off + a1.length) (by omega) (by omega), show off + (a1.length + a2.length) = off + a1.length + a2.length by omega]
  omega
theorem node_once (f : Nat) : ∀ off P u a, node f off P u = .ok a → 0 < a.length ∧ Once off a := by
 induction f with
 | zero => intro off P u a h; cases h
 | succ f ih =>
  intro off P u a h
  obtain ⟨k, b, n, s, l, m⟩ := u
  obtain ⟨_, keys, r, h1, rfl⟩ := node_inv h
  refine ⟨by simp, fun n => ?_⟩
  rw [kidNos_cons, List.count_append, memsN_once ih h1 n, List.length_cons, show off + (r.length + 1) = off + 1 + r.length by omega]

def Above (off : Nat) (a : List Node) : Prop := ∀ i N, a[i]? = some N → ∀ k ∈ N.keys, ∀ p ∈ k.kids, off + i < p.2 ∧ p.2 < off + a.length
theorem kidsN_above {nd : Nat → Names → Vl → Res (List Node)} (hnd : ∀ off P u a, nd off P u = .ok a → 0 < a.length ∧ Above off a) {single : Bool} {under : Names} : ∀ {l : List Mem} {off : Nat} {ks : List (List UInt8 × Nat)} {a : List Node}, kidsN nd single under off l = .ok (ks, a) → (∀ p ∈ ks, off ≤ p.2 ∧ p.2 < off + a.length) ∧ Above off a
 | [], off, ks, a, e => by
  rw [kidsN] at e; injection e with e; injection e with e1 e2; subst e1 e2
  exact ⟨(fun p h => by cases h), fun i N h => by simp at h⟩
 | (key, u) :: r, off, ks, a, e => by
  obtain ⟨a1, ks2, a2, h1, h2, rfl, rfl⟩ := kidsN_cons e
  obtain ⟨hp, ho⟩ := hnd _ _ _ _ h1
  obtain ⟨h3, h4⟩ := kidsN_above hnd h2
  rw [List.length_append]
  refine ⟨fun p hm => ?_, ?_⟩
  ·rcases List.mem_cons.1 hm with rfl | hm
   ·simp only; omega
   ·have := h3 p hm; omega
  ·intro i N hi k hk p hpk
   rw [List.length_append]
   by_cases hlt : i < a1.length
   ·rw [List.getElem?_append_left hlt] at hi
    have := ho i N hi k hk p hpk; omega
   ·rw [List.getElem?_append_right (by omega)] at hi
    have := h4 _ N hi k hk p hpk; omega
theorem memsN_above {nd : Nat → Names → Vl → Res (List Node)} (hnd : ∀ off P u a, nd off P u = .ok a → 0 < a.length ∧ Above off a) {P : Names} : ∀ {m : List Mem} {off : Nat} {keys : List Key} {a : List Node}, memsN nd P off m = .ok (keys, a) → (∀ k ∈ keys, ∀ p ∈ k.kids, off ≤ p.2 ∧ p.2 < off + a.length) ∧ Above off a
 | [], off, keys, a, e => by
  rw [memsN] at e; injection e with e; injection e with e1 e2; subst e1 e2
  exact ⟨(fun p h => by cases h), fun i N h => by simp at h⟩
 | (nm, w) :: r, off, keys, a, e => by
  obtain ⟨_, ks, a1, keys2, a2, h1, h2, rfl, rfl⟩ := memsN_cons e
  obtain ⟨h3, h4⟩ := kidsN_above hnd h1
  obtain ⟨h5, h6⟩ := memsN_above hnd h2
  rw [List.length_append]
  refine ⟨fun k hm p hpk => ?_, ?_⟩
  ·rcases List.mem_cons.1 hm with rfl | hm
   ·have := h3 p hpk; omega
   ·have := h5 k hm p hpk; omega
  ·intro i N hi k hk p hpk
   rw [List.length_append]
   by_cases hlt : i < a1.length
   ·rw [List.getElem?_append_left hlt] at hi
    have := h4 i N hi k hk p hpk; omega
   ·rw [List.getElem?_append_right (by omega)] at hi
    have := h6 _ N hi k hk p hpk; omega
theorem node_above (f : Nat) : ∀ off P u a, node f off P u = .ok a → 0 < a.length ∧ Above off a := by
 induction f with
 | zero => intro off P u a h; cases h
 | succ f ih =>
  intro off P u a h
  obtain ⟨k, b, n, s, l, m⟩ := u
  obtain ⟨_, keys, r, h1, rfl⟩ := node_inv h
  obtain ⟨h2, h3⟩ := memsN_above ih h1
  refine ⟨by simp, fun i N hi q hq p hpk => ?_⟩
  rw [List.length_cons]
  cases i with
  | zero =>
   obtain rfl : _ = N := by simpa using hi
   have := h2 q hq p hpk; omega
  | succ i =>
   rw [List.getElem?_cons_succ] at hi
   have := h3 i N hi q hq p hpk; omega

end Go.Proofs.YtolkfgikomminaaGreatDoor.Cm

namespace Go.Proofs.YtolkfgikomminaaGreatDoor.Cm
open Js Pt

def Of (N : Node) : Vl → Prop
 | .mk k b _ _ _ m => N.all = decide (k = 1) ∧ N.pass = b ∧ N.keys.length = m.length
def Stand (P : Names) (v : Vl) (a : List Node) : Prop := (∀ N ∈ a, ∃ ns x, N.at_ = P ++ ns ∧ get v ns = some x ∧ Of N x) ∧ (a.map (·.at_)).Nodup

theorem ne_of_less {a b : List UInt8} (h : Lib.compareBytes a b = -1) : a ≠ b := fun e => by rw [e, Nm.bytes_self] at h; omega
theorem rises_nodup {ks : List (List UInt8)} (h : rises ks = true) : ks.Nodup := ((Ps.rises_iff ks).1 h).imp ne_of_less
theorem numbered_nodup (l : List Vl) : ((Sh.numbered l).map (·.1)).Nodup := by
 refine List.pairwise_iff_getElem.2 ?_
 intro i j hi hj hij
 simp only [Sh.numbered, List.getElem_map, List.getElem_mapIdx]
 intro e
 have := congrArg Nm.val e
 rw [Nm.val_dec, Nm.val_dec] at this
 omega
theorem kid_mem {k : Int} {b : Bool} {n : Nm.Num} {s : List UInt8} {l : List Vl} {m : List Mem} (h : (Vl.mk k b n s l m).may = true) {q : Mem} (hq : q ∈ m) : Ed.kid (.mk k b n s l m) q.1 = some q.2 := by
 obtain ⟨_, _, _, _, _, _, h5, _, _, _, _, hr⟩ := may_own h
 have hk : k = 5 := by
  apply Classical.byContradiction
  intro hk
  rw [h5 hk] at hq; cases hq
 subst hk
 rw [Ed.kid_mk, if_neg (by decide)]
 obtain ⟨i, hi⟩ := List.getElem?_of_mem hq
 show (if (5 : Int) = 5 then Js.find m q.1 else none) = _
 rw [if_pos rfl]
 exact find_at hr hi
def step (nm key : List UInt8) : Names := if Sh.single nm = true then [] else [key]
theorem kid_get {nm : List UInt8} {w : Vl} (hm : w.may = true) (hs : w.size ≤ 1000000) (h : Sh.shape nm w = 0) {p : Mem} (hp : p ∈ Sh.kids nm w) : get w (step nm p.1) = some p.2 := by
 obtain ⟨_, hok⟩ := Sh.shape_zero h
 obtain ⟨k, b, n, s, l, m⟩ := w
 rw [Sh.kids_mk] at hp
 unfold step
 by_cases h8 : Sh.kw nm = 8
 ·rw [if_pos h8] at hp
  obtain rfl := List.mem_singleton.1 hp
  rw [if_pos (show Sh.single nm = true from decide_eq_true h8)]
  rfl
 ·rw [if_neg h8] at hp
  rw [if_neg (show ¬ Sh.single nm = true from fun e => h8 (of_decide_eq_true e)), Ed.get_kid]
  by_cases h9 : Sh.kw nm = 9
  ·rw [if_pos h9] at hp
   rw [kid_mem hm hp]
   rfl
  ·rw [if_neg h9] at hp
   by_cases h10 : Sh.kw nm = 10
   ·rw [if_pos h10] at hp
    rw [h10] at hok
    simp only [Sh.okOf, Bool.and_eq_true, decide_eq_true_eq] at hok
    obtain ⟨⟨hk, _⟩, _⟩ := hok
    obtain ⟨i, hi⟩ := List.getElem?_of_mem hp
    obtain ⟨u, hu, rfl⟩ := Sh.numbered_get hi
    have hil := (List.getElem?_eq_some_iff.1 hu).1
    have hll := sizeL_len l
    simp only [Vl.size] at hs
    rw [Ed.kid_mk, if_pos hk, Ed.index_at_num (Ed.dec_good i (by omega)) (by rw [Nm.val_dec]; exact hil) false, Nm.val_dec, if_pos rfl]
    simp only
    rw [hu]
    rfl
   ·rw [if_neg h10] at hp; cases hp
theorem kids_may {nm : List UInt8} {w : Vl} (hm : w.may = true) {p : Mem} (hp : p ∈ Sh.kids nm w) : p.2.may = true := by
 obtain ⟨k, b, n, s, l, m⟩ := w
 obtain ⟨_, _, _, _, _, _, _, _, _, hl, hmm, _⟩ := may_own hm
 rw [Sh.kids_mk] at hp
 split at hp
 ·obtain rfl := List.mem_singleton.1 hp; exact hm
 ·split at hp
  ·exact (mayM_iff m).1 hmm p hp |>.2
  ·split at hp
   ·obtain ⟨i, hi⟩ := List.getElem?_of_mem hp
    obtain ⟨u, hu, rfl⟩ := Sh.numbered_get hi
    exact (mayL_iff l).1 hl u (List.mem_of_getElem? hu)
   ·cases hp
theorem kids_nodup {nm : List UInt8} {w : Vl} (hm : w.may = true) : ((Sh.kids nm w).map (·.1)).Nodup := by
 obtain ⟨k, b, n, s, l, m⟩ := w
 obtain ⟨_, _, _, _, _, _, _, _, _, _, _, hr⟩ := may_own hm
 rw [Sh.kids_mk]
 split
 ·simp
 ·split
  ·exact rises_nodup hr
  ·split
   ·exact numbered_nodup l
   ·simp
theorem kids_single {nm : List UInt8} (w : Vl) (h : Sh.single nm = true) : (Sh.kids nm w).length ≤ 1 := by
 obtain ⟨k, b, n, s, l, m⟩ := w
 rw [Sh.kids_mk, if_pos (of_decide_eq_true h)]
 simp
theorem nodup_two {α : Type} {a b : List α} (ha : a.Nodup) (hb : b.Nodup) (h : ∀ x ∈ a, x ∈ b → False) : (a ++ b).Nodup := List.nodup_append.2 ⟨ha, hb, fun x hx _ hy e => h x hx (e ▸ hy)⟩

theorem kidsN_stand {nd : Nat → Names → Vl → Res (List Node)} {single : Bool} {under : Names} : ∀ {l : List Mem} {off : Nat} {ks : List (List UInt8 × Nat)} {a : List Node}, (∀ p ∈ l, ∀ off P a, nd off P p.2 = .ok a → Stand P p.2 a) → (single = true → l.length ≤ 1) → (l.map (·.1)).Nodup → kidsN nd single under off l = .ok (ks, a) →
  (∀ N ∈ a, ∃ p ∈ l, ∃ ns x, N.at_ = under ++ ((if single = true then [] else [p.1]) ++ ns) ∧ get p.2 ns = some x ∧ Of N x) ∧ (a.map (·.at_)).Nodup
 | [], off, ks, a, _, _, _, e => by
  rw [kidsN] at e; injection e with e; injection e with e1 e2; subst e1 e2
  exact ⟨(fun N h => by cases h), by simp⟩
 | (key, u) :: r, off, ks, a, hnd, hk, hd, e => by
  obtain ⟨a1, ks2, a2, h1, h2, _, rfl⟩ := kidsN_cons e
  obtain ⟨h3, h4⟩ := hnd (key, u) (by simp) _ _ _ h1
  rw [List.map_cons, List.nodup_cons] at hd
  obtain ⟨h5, h6⟩ := kidsN_stand (fun p hp => hnd p (by simp [hp])) (fun h => by have := hk h; simp at this; simp [this]) hd.2 h2
  have hh : ∀ N ∈ a1, ∃ ns x, N.at_ = under ++ ((if single = true then [] else [key]) ++ ns) ∧ get u ns = some x ∧ Of N x := by
   intro N hN
   obtain ⟨ns, x, e1, e2, e3⟩ := h3 N hN
   refine ⟨ns, x, ?_, e2, e3⟩
   rw [e1]
   split
   ·rfl
   ·rw [List.append_assoc]
  refine ⟨fun N hN => ?_, ?_⟩
  ·rcases List.mem_append.1 hN with hN | hN
   ·obtain ⟨ns, x, e1, e2, e3⟩ := hh N hN
    exact ⟨(key, u), by simp, ns, x, e1, e2, e3⟩
   ·obtain ⟨p, hp, q⟩ := h5 N hN
    exact ⟨p, by simp [hp], q⟩
  ·rw [List.map_append]
   refine nodup_two h4 h6 ?_
   intro x hx hy
   obtain ⟨N, hN, rfl⟩ := List.mem_map.1 hx
   obtain ⟨N', hN', e'⟩ := List.mem_map.1 hy
   obtain ⟨ns, _, e1, _, _⟩ := hh N hN
   obtain ⟨p, hp, ns', _, e2, _, _⟩ := h5 N' hN'
   rw [e2, e1] at e'
   have e3 := List.append_cancel_left e'
   cases single with
   | true =>
    have := hk rfl
    simp at this
    subst this
    cases hp
   | false =>
    simp only [Bool.false_eq_true, if_false, List.cons_append, List.nil_append, List.cons.injEq] at e3
    exact hd.1 (List.mem_map.2 ⟨p, hp, e3.1⟩)
theorem memsN_stand {nd : Nat → Names → Vl → Res (List Node)} {P : Names} : ∀ {m : List Mem} {off : Nat} {keys : List Key} {a : List Node}, (∀ q ∈ m, q.2.may = true) → (∀ q ∈ m, ∀ p ∈ Sh.kids q.1 q.2, ∀ off P a, nd off P p.2 = .ok a → Stand P p.2 a) → (m.map (·.1)).Nodup → memsN nd P off m = .ok (keys, a) →
  (∀ N ∈ a, ∃ q ∈ m, ∃ p ∈ Sh.kids q.1 q.2, Sh.shape q.1 q.2 = 0 ∧ ∃ ns x, N.at_ = P ++ (q.1 :: (step q.1 p.1 ++ ns)) ∧ get p.2 ns = some x ∧ Of N x) ∧ (a.map (·.at_)).Nodup
 | [], off, keys, a, _, _, _, e => by
  rw [memsN] at e; injection e with e; injection e with e1 e2; subst e1 e2
  exact ⟨(fun N h => by cases h), by simp⟩
 | (nm, w) :: r, off, keys, a, hmay, hnd, hd, e => by
  obtain ⟨h0, ks, a1, keys2, a2, h1, h2, _, rfl⟩ := memsN_cons e
  obtain ⟨h3, h4⟩ := kidsN_stand (hnd (nm, w) (by simp)) (fun h => kids_single w h) (kids_nodup (hmay (nm, w) (by simp))) h1
  rw [List.map_cons, List.nodup_cons] at hd
  obtain ⟨h5, h6⟩ := memsN_stand (fun q hq => hmay q (by simp [hq])) (fun q hq => hnd q (by simp [hq])) hd.2 h2
  have hh : ∀ N ∈ a1, ∃ p ∈ Sh.kids nm w, ∃ ns x, N.at_ = P ++ (nm :: (step nm p.1 ++ ns)) ∧ get p.2 ns = some x ∧ Of N x := by
   intro N hN
   obtain ⟨p, hp, ns, x, e1, e2, e3⟩ := h3 N hN
   exact ⟨p, hp, ns, x, by rw [e1, List.append_assoc]; rfl, e2, e3⟩
  refine ⟨fun N hN => ?_, ?_⟩
  ·rcases List.mem_append.1 hN with hN | hN
   ·obtain ⟨p, hp, ns, x, e1, e2, e3⟩ := hh N hN
    exact ⟨(nm, w), by simp, p, hp, h0, ns, x, e1, e2, e3⟩
   ·obtain ⟨q, hq, z⟩ := h5 N hN
    exact ⟨q, by simp [hq], z⟩
  ·rw [List.map_append]
   refine nodup_two h4 h6 ?_
   intro x hx hy
   obtain ⟨N, hN, rfl⟩ := List.mem_map.1 hx
   obtain ⟨N', hN', e'⟩ := List.mem_map.1 hy
   obtain ⟨_, _, ns, _, e1, _, _⟩ := hh N hN
   obtain ⟨q, hq, _, _, _, ns', _, e2, _, _⟩ := h5 N' hN'
   rw [e2, e1] at e'
   have e3 := List.append_cancel_left e'
   injection e3 with e3 _
   exact hd.1 (List.mem_map.2 ⟨q, hq, e3⟩)
theorem get_steps {v w u : Vl} {nm : List UInt8} {st ns : Names} (h1 : Ed.kid v nm = some w) (h2 : get w st = some u) (hst : st = [] ∨ ∃ key, st = [key]) : get v (nm :: (st ++ ns)) = get u ns := by
 rw [Ed.get_kid, h1]
 show get w (st ++ ns) = _
 rcases hst with rfl | ⟨key, rfl⟩
 ·have : w = u := by
   obtain ⟨k, b, n, s, l, m⟩ := w
   injection h2
  rw [this]; rfl
 ·rw [List.cons_append, List.nil_append, Ed.get_kid]
  rw [Ed.get_kid] at h2
  cases hk : Ed.kid w key with
  | none => rw [hk] at h2; cases h2
  | some z =>
   rw [hk] at h2
   have : z = u := by
    obtain ⟨k, b, n, s, l, m⟩ := z
    injection h2
   show get z ns = _
   rw [this]
theorem node_stand (f : Nat) : ∀ off P v a, v.may = true → v.size ≤ 1000000 → node f off P v = .ok a → Stand P v a := by
 induction f with
 | zero => intro off P v a _ _ h; cases h
 | succ f ih =>
  intro off P v a hv hs h
  obtain ⟨k, b, n, s, l, m⟩ := v
  obtain ⟨_, keys, r, h1, rfl⟩ := node_inv h
  have hkl := memsN_len h1
  obtain ⟨_, _, _, _, _, _, _, _, _, _, hmm, hr⟩ := may_own hv
  have hmay : ∀ q ∈ m, q.2.may = true := fun q hq => ((mayM_iff m).1 hmm q hq).2
  have hsz : ∀ q ∈ m, q.2.size ≤ 1000000 := fun q hq => by have := sizeM_mem hq; simp only [Vl.size] at hs; omega
  obtain ⟨h2, h3⟩ := memsN_stand hmay (fun q hq p hp off P a => ih off P p.2 a (kids_may (hmay q hq) hp) (by have := kids_size hp; have := hsz q hq; omega)) (rises_nodup hr) h1
  refine ⟨fun N hN => ?_, ?_⟩
  ·rcases List.mem_cons.1 hN with rfl | hN
   ·exact ⟨[], .mk k b n s l m, by simp, rfl, rfl, rfl, hkl⟩
   ·obtain ⟨q, hq, p, hp, h0, ns, x, e1, e2, e3⟩ := h2 N hN
    refine ⟨_, x, e1, ?_, e3⟩
    rw [get_steps (kid_mem hv hq) (kid_get (hmay q hq) (hsz q hq) h0 hp) (by unfold step; split; exact .inl rfl; exact .inr ⟨_, rfl⟩)]
    exact e2
  ·rw [List.map_cons, List.nodup_cons]
   refine ⟨fun hx => ?_, h3⟩
   obtain ⟨N, hN, e⟩ := List.mem_map.1 hx
   obtain ⟨q, _, p, _, _, ns, _, e1, _, _⟩ := h2 N hN
   rw [e1] at e
   have := congrArg List.length e
   simp at this
theorem compile_stand {v : Vl} {a : List Node} (hv : v.may = true) (hs : v.size ≤ 1000000) (h : compile v = .ok a) : (∀ N ∈ a, ∃ x, get v N.at_ = some x ∧ Of N x) ∧ (a.map (·.at_)).Nodup ∧ 0 < a.length ∧ a.length ≤ 200 ∧ Once 0 a ∧ Above 0 a := by
 unfold compile at h
 split at h
 ·obtain ⟨h1, h2⟩ := node_stand _ _ _ _ _ hv hs h
  have h3 := node_once _ _ _ _ _ h
  have h4 := node_above _ _ _ _ _ h
  have h5 := node_room _ _ _ _ _ (by omega) h
  refine ⟨fun N hN => ?_, h2, h3.1, by omega, h3.2, h4.2⟩
  obtain ⟨ns, x, e1, e2, e3⟩ := h1 N hN
  rw [List.nil_append] at e1
  exact ⟨x, by rw [e1]; exact e2, e3⟩
 ·cases h

end Go.Proofs.YtolkfgikomminaaGreatDoor.Cm

namespace Go.Proofs.YtolkfgikomminaaGreatDoor.Cm
open Js Pt

theorem kidsN_append {nd : Nat → Names → Vl → Res (List Node)} {single : Bool} {under : Names} {l2 : List Mem} : ∀ (l1 : List Mem) (off : Nat), kidsN nd single under off (l1 ++ l2) = match kidsN nd single under off l1 with
  | .bad c p => .bad c p
  | .ok (k1, a1) => match kidsN nd single under (off + a1.length) l2 with
   | .bad c p => .bad c p
   | .ok (k2, a2) => .ok (k1 ++ k2, a1 ++ a2)
 | [], off => by
  rw [List.nil_append, show kidsN nd single under off [] = .ok ([], []) from rfl]
  simp only [List.length_nil, Nat.add_zero, List.nil_append]
  cases kidsN nd single under off l2 with
  | bad c p => rfl
  | ok x => rfl
 | (key, u) :: r, off => by
  rw [List.cons_append, kidsN, kidsN]
  cases nd off (if single = true then under else under ++ [key]) u with
  | bad c p => rfl
  | ok a =>
   simp only
   rw [kidsN_append r]
   cases kidsN nd single under (off + a.length) r with
   | bad c p => rfl
   | ok x =>
    obtain ⟨k1, a1⟩ := x
    simp only [List.length_append, ← Nat.add_assoc]
    cases kidsN nd single under (off + a.length + a1.length) l2 with
    | bad c p => rfl
    | ok x => simp only [List.cons_append, List.append_assoc]
theorem memsN_append {nd : Nat → Names → Vl → Res (List Node)} {P : Names} {l2 : List Mem} : ∀ (l1 : List Mem) (off : Nat), memsN nd P off (l1 ++ l2) = match memsN nd P off l1 with
  | .bad c p => .bad c p
  | .ok (k1, a1) => match memsN nd P (off + a1.length) l2 with
   | .bad c p => .bad c p
   | .ok (k2, a2) => .ok (k1 ++ k2, a1 ++ a2)
 | [], off => by
  rw [List.nil_append, show memsN nd P off [] = .ok ([], []) from rfl]
  simp only [List.length_nil, Nat.add_zero, List.nil_append]
  cases memsN nd P off l2 with
  | bad c p => rfl
  | ok x => rfl
 | (nm, w) :: r, off => by
  rw [List.cons_append, memsN, memsN]
  split
  ·cases kidsN nd (Sh.single nm) (P ++ [nm]) off (Sh.kids nm w) with
   | bad c p => rfl
   | ok x =>
    obtain ⟨ks, a⟩ := x
    simp only
    rw [memsN_append r]
    cases memsN nd P (off + a.length) r with
    | bad c p => rfl
    | ok x =>
     obtain ⟨k1, a1⟩ := x
     simp only [List.length_append, ← Nat.add_assoc]
     cases memsN nd P (off + a.length + a1.length) l2 with
     | bad c p => rfl
     | ok x => simp only [List.cons_append, List.append_assoc]
  ·rfl
theorem kidsN_next {nd : Nat → Names → Vl → Res (List Node)} {single : Bool} {under : Names} {l : List Mem} {off j : Nat} {ks : List (List UInt8 × Nat)} {a : List Node} (hj : j < l.length) (h : kidsN nd single under off (l.take j) = .ok (ks, a)) :
  (∀ b, nd (off + a.length) (if single = true then under else under ++ [(l[j]).1]) (l[j]).2 = .ok b → kidsN nd single under off (l.take (j + 1)) = .ok (ks ++ [((l[j]).1, off + a.length)], a ++ b)) ∧
  (∀ c p, nd (off + a.length) (if single = true then under else under ++ [(l[j]).1]) (l[j]).2 = .bad c p → kidsN nd single under off l = .bad c p) := by
 refine ⟨fun b hb => ?_, fun c p hb => ?_⟩
 ·rw [List.take_succ_eq_append_getElem hj, kidsN_append, h]
  simp only
  rw [show [l[j]] = [((l[j]).1, (l[j]).2)] from rfl, kidsN, hb]
  simp only
  rw [show kidsN nd single under (off + a.length + b.length) [] = .ok ([], []) from rfl]
  simp
 ·have e : l = l.take j ++ ((l[j]).1, (l[j]).2) :: l.drop (j + 1) := by
   conv => lhs; rw [← List.take_append_drop j l, List.drop_eq_getElem_cons hj]
  rw [e, kidsN_append, h]
  simp only
  rw [kidsN, hb]
theorem memsN_next {nd : Nat → Names → Vl → Res (List Node)} {P : Names} {m : List Mem} {off j : Nat} {keys : List Key} {a : List Node} (hj : j < m.length) (h : memsN nd P off (m.take j) = .ok (keys, a)) :
  (¬ Sh.shape (m[j]).1 (m[j]).2 = 0 → memsN nd P off m = .bad (Sh.shape (m[j]).1 (m[j]).2) (P ++ [(m[j]).1])) ∧
  (Sh.shape (m[j]).1 (m[j]).2 = 0 → (∀ ks b, kidsN nd (Sh.single (m[j]).1) (P ++ [(m[j]).1]) (off + a.length) (Sh.kids (m[j]).1 (m[j]).2) = .ok (ks, b) → memsN nd P off (m.take (j + 1)) = .ok (keys ++ [⟨(m[j]).1, (m[j]).2, ks⟩], a ++ b)) ∧
   (∀ c p, kidsN nd (Sh.single (m[j]).1) (P ++ [(m[j]).1]) (off + a.length) (Sh.kids (m[j]).1 (m[j]).2) = .bad c p → memsN nd P off m = .bad c p)) := by
 have e : m = m.take j ++ ((m[j]).1, (m[j]).2) :: m.drop (j + 1) := by
  conv => lhs; rw [← List.take_append_drop j m, List.drop_eq_getElem_cons hj]
 refine ⟨fun h0 => ?_, fun h0 => ⟨fun ks b hb => ?_, fun c p hb => ?_⟩⟩
 ·generalize hq : m[j] = q at *
  rw [e, memsN_append, h]
  simp only
  rw [memsN, if_neg h0]
 ·rw [List.take_succ_eq_append_getElem hj, memsN_append, h]
  simp only
  rw [show [m[j]] = [((m[j]).1, (m[j]).2)] from rfl, memsN, if_pos h0, hb]
  simp only
  rw [show memsN nd P (off + a.length + b.length) [] = .ok ([], []) from rfl]
  simp
 ·generalize hq : m[j] = q at *
  rw [e, memsN_append, h]
  simp only
  rw [memsN, if_pos h0, hb]
theorem node_ok {f off : Nat} {P : Names} {k : Int} {b : Bool} {n : Nm.Num} {s : List UInt8} {l : List Vl} {m : List Mem} {keys : List Key} {r : List Node} (h0 : ¬ off = 200) (h : memsN (node f) P (off + 1) m = .ok (keys, r)) : node (f + 1) off P (.mk k b n s l m) = .ok (⟨P, decide (k = 1), b, keys⟩ :: r) := by
 rw [node, if_neg h0, h]
theorem node_bad {f off : Nat} {P : Names} {k : Int} {b : Bool} {n : Nm.Num} {s : List UInt8} {l : List Vl} {m : List Mem} {c : Nat} {p : Names} (h0 : ¬ off = 200) (h : memsN (node f) P (off + 1) m = .bad c p) : node (f + 1) off P (.mk k b n s l m) = .bad c p := by
 rw [node, if_neg h0, h]
theorem node_full {f off : Nat} {P : Names} {v : Vl} (h0 : off = 200) : node (f + 1) off P v = .bad 5 P := by
 obtain ⟨k, b, n, s, l, m⟩ := v
 rw [node, if_pos h0]

end Go.Proofs.YtolkfgikomminaaGreatDoor.Cm


