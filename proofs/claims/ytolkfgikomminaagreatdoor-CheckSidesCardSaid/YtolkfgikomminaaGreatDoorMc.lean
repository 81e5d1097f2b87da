/- Mc: Va Pa Pb Rh, in one text. -/
import Derived.Test.YtolkfgikomminaaGreatDoorMa
import Derived.Test.YtolkfgikomminaaGreatDoorMb
namespace Go.Proofs.YtolkfgikomminaaGreatDoor.Js
open Nm (Num)

inductive Vl where
 | mk (k : Int) (b : Bool) (n : Num) (s : List UInt8) (l : List Vl) (m : List (List UInt8 × Vl))

abbrev Mem := List UInt8 × Vl

theorem mem_lt {v : Vl} {l : List Vl} (h : v ∈ l) (k b n s m) : SizeOf.sizeOf v < SizeOf.sizeOf (Vl.mk k b n s l m) := by
 have := List.sizeOf_lt_of_mem h
 simp only [Vl.mk.sizeOf_spec]; omega
theorem pair_lt {p : Mem} {m : List Mem} (h : p ∈ m) (k b n s l) : SizeOf.sizeOf p.2 < SizeOf.sizeOf (Vl.mk k b n s l m) := by
 have := List.sizeOf_lt_of_mem h
 have h2 : SizeOf.sizeOf p.2 < SizeOf.sizeOf p := by cases p; simp only [Prod.mk.sizeOf_spec]; omega
 simp only [Vl.mk.sizeOf_spec]; omega

theorem Vl.ind {P : Vl → Prop} (h : ∀ k b n s l m, (∀ v ∈ l, P v) → (∀ p ∈ m, P p.2) → P (.mk k b n s l m)) (v : Vl) : P v :=
 match v with
 | .mk k b n s l m => h k b n s l m (fun v _hv => Vl.ind h v) (fun p _hp => Vl.ind h p.2)
termination_by SizeOf.sizeOf v
decreasing_by
 ·exact mem_lt _hv _ _ _ _ _
 ·exact pair_lt _hp _ _ _ _ _

mutual
def Vl.size : Vl → Nat
 | .mk _ _ _ _ l m => 1 + sizeL l + sizeM m
def sizeL : List Vl → Nat
 | [] => 0
 | v :: l => v.size + sizeL l
def sizeM : List Mem → Nat
 | [] => 0
 | p :: m => sizeP p + sizeM m
def sizeP : Mem → Nat
 | (_, v) => v.size
end

mutual
def Vl.depth : Vl → Nat
 | .mk k _ _ _ l m => if k = 4 ∨ k = 5 then max (depthL l) (depthM m) + 1 else 0
def depthL : List Vl → Nat
 | [] => 0
 | v :: l => max v.depth (depthL l)
def depthM : List Mem → Nat
 | [] => 0
 | p :: m => max (depthP p) (depthM m)
def depthP : Mem → Nat
 | (_, v) => v.depth
end

mutual
def Vl.levels : Vl → Nat
 | .mk _ _ _ _ l m => max (levelsL l) (levelsM m)
def levelsL : List Vl → Nat
 | [] => 0
 | v :: l => max (v.levels + 1) (levelsL l)
def levelsM : List Mem → Nat
 | [] => 0
 | p :: m => max (levelsP p + 1) (levelsM m)
def levelsP : Mem → Nat
 | (_, v) => v.levels
end

mutual
def Vl.same : Vl → Vl → Bool
 | .mk k b n s l m, .mk k' b' n' s' l' m' => decide (k = k') && decide (b = b') && decide (n = n') && decide (s = s') && sameL l l' && sameM m m'
def sameL : List Vl → List Vl → Bool
 | [], [] => true
 | v :: l, v' :: l' => v.same v' && sameL l l'
 | _, _ => false
def sameM : List Mem → List Mem → Bool
 | [], [] => true
 | p :: m, p' :: m' => sameP p p' && sameM m m'
 | _, _ => false
def sameP : Mem → Mem → Bool
 | (k, v), (k', v') => decide (k = k') && v.same v'
end

def mayNum (n : Num) : Bool :=
 if n.digits = [] then !n.neg && decide (n.exp = 0)
 else n.digits.all Nm.dig && decide (n.digits.head? ≠ some 48) && decide (n.digits.getLast? ≠ some 48) && decide (n.digits.length ≤ 60) && decide (-1000 ≤ n.exp) && decide (n.exp ≤ 1000)

def ownOf (k : Int) (b : Bool) (n : Num) (s : List UInt8) (l m : Nat) : Bool :=
 decide (0 ≤ k) && decide (k ≤ 5) && (decide (k = 1) || !b) && (decide (k = 2) || decide (n = Num.zero)) && (decide (k = 3) || decide (s = [])) && (decide (k = 4) || decide (l = 0)) && (decide (k = 5) || decide (m = 0))

def rises : List (List UInt8) → Bool
 | a :: b :: r => decide (Lib.compareBytes a b = -1) && rises (b :: r)
 | _ => true

mutual
def Vl.may : Vl → Bool
 | .mk k b n s l m => ownOf k b n s l.length m.length && mayNum n && St.text s && mayL l && (mayM m && rises (m.map (·.1)))
def mayL : List Vl → Bool
 | [] => true
 | v :: l => v.may && mayL l
def mayM : List Mem → Bool
 | [] => true
 | p :: m => mayP p && mayM m
def mayP : Mem → Bool
 | (k, v) => St.text k && v.may
end

def find (m : List Mem) (key : List UInt8) : Option Vl := (m.find? fun p => decide (p.1 = key)).map (·.2)
def Vl.find : Vl → List UInt8 → Option Vl
 | .mk k _ _ _ _ m, key => if k = 5 then Js.find m key else none

theorem same_iff (a : Vl) : ∀ b, a.same b = true ↔ a = b := by
 induction a using Vl.ind with
 | h k b n s l m hl hm =>
  rintro ⟨k', b', n', s', l', m'⟩
  have el : ∀ l', sameL l l' = true ↔ l = l' := by
   clear hm
   induction l with
   | nil => intro l'; cases l' <;> simp [sameL]
   | cons v l ih =>
    intro l'
    cases l' with
    | nil => simp [sameL]
    | cons v' l' => simp [sameL, ih (fun x hx => hl x (by simp [hx])), hl v (by simp)]
  have em : ∀ m', sameM m m' = true ↔ m = m' := by
   clear hl el
   induction m with
   | nil => intro m'; cases m' <;> simp [sameM]
   | cons p m ih =>
    intro m'
    cases m' with
    | nil => simp [sameM]
    | cons p' m' =>
     obtain ⟨x, v⟩ := p
     obtain ⟨x', v'⟩ := p'
     have := hm (x, v) (by simp)
     simp only at this
     simp [sameM, sameP, ih (fun x hx => hm x (by simp [hx])), this]
  simp [Vl.same, el, em, and_assoc]

theorem same_refl (a : Vl) : a.same a = true := (same_iff a a).2 rfl
theorem same_comm (a b : Vl) : a.same b = b.same a := by
 rw [Bool.eq_iff_iff, same_iff, same_iff]; exact eq_comm

theorem mayL_iff (l : List Vl) : mayL l = true ↔ ∀ v ∈ l, v.may = true := by
 induction l with
 | nil => simp [mayL]
 | cons v l ih => simp [mayL, ih]
theorem mayM_iff (m : List Mem) : mayM m = true ↔ ∀ p ∈ m, St.text p.1 = true ∧ p.2.may = true := by
 induction m with
 | nil => simp [mayM]
 | cons p m ih =>
  obtain ⟨x, v⟩ := p
  simp [mayM, mayP, ih]

theorem may_own {k : Int} {b : Bool} {n : Num} {s : List UInt8} {l : List Vl} {m : List Mem} (h : (Vl.mk k b n s l m).may = true) :
  0 ≤ k ∧ k ≤ 5 ∧ (¬ k = 1 → b = false) ∧ (¬ k = 2 → n = Num.zero) ∧ (¬ k = 3 → s = []) ∧ (¬ k = 4 → l = []) ∧ (¬ k = 5 → m = []) ∧ mayNum n = true ∧ St.text s = true ∧ mayL l = true ∧ mayM m = true ∧ rises (m.map (·.1)) = true := by
 simp only [Vl.may, ownOf, Bool.and_eq_true, Bool.or_eq_true, decide_eq_true_eq, Bool.not_eq_true', List.length_eq_zero_iff] at h
 obtain ⟨⟨⟨⟨⟨⟨⟨⟨⟨⟨h1, h2⟩, h3⟩, h4⟩, h5⟩, h6⟩, h7⟩, h8⟩, h9⟩, h10⟩, h11, h12⟩ := h
 exact ⟨h1, h2, fun e => h3.resolve_left e, fun e => h4.resolve_left e, fun e => h5.resolve_left e, fun e => h6.resolve_left e, fun e => h7.resolve_left e, h8, h9, h10, h11, h12⟩
theorem mayNum_May {n : Num} (h : mayNum n = true) : Nm.May n := by
 obtain ⟨neg, dg, ex⟩ := n
 unfold mayNum at h
 simp only at h
 split at h
 ·rename_i e
  subst e
  simp at h
  left; simp [Num.zero, h]
 ·rename_i e
  simp only [Bool.and_eq_true, decide_eq_true_eq, List.all_eq_true] at h
  obtain ⟨⟨⟨⟨⟨h1, h2⟩, h3⟩, h4⟩, h5⟩, h6⟩ := h
  exact .inr ⟨e, h1, h2, h3, h4, h5, h6⟩
theorem May_mayNum {n : Num} (h : Nm.May n) : mayNum n = true := by
 rcases h with rfl | ⟨h0, h1, h2, h3, h4, h5, h6⟩
 ·rfl
 ·unfold mayNum
  rw [if_neg h0]
  simp only [Bool.and_eq_true, decide_eq_true_eq, List.all_eq_true]
  exact ⟨⟨⟨⟨⟨h1, h2⟩, h3⟩, h4⟩, h5⟩, h6⟩

theorem less_trans {a b c : List UInt8} (h : Lib.compareBytes a b = -1) (k : Lib.compareBytes b c = -1) : Lib.compareBytes a c = -1 := by
 have h1 := Nm.bytes_next a b c (by omega) (by omega)
 have h2 := Nm.bytes_range a c
 have h3 : Lib.compareBytes a c ≠ 0 := fun e => by
  have := Nm.bytes_zero _ _ e
  subst this
  have := Nm.bytes_flip a b
  omega
 omega
theorem rises_cons {a : List UInt8} {r : List (List UInt8)} (h : rises (a :: r) = true) : rises r = true ∧ ∀ b ∈ r, Lib.compareBytes a b = -1 := by
 induction r generalizing a with
 | nil => simp [rises]
 | cons b r ih =>
  simp only [rises, Bool.and_eq_true, decide_eq_true_eq] at h
  refine ⟨h.2, fun c hc => ?_⟩
  rcases List.mem_cons.1 hc with rfl | hc
  ·exact h.1
  ·exact less_trans h.1 ((ih h.2).2 c hc)
theorem rises_at {ks : List (List UInt8)} (h : rises ks = true) {i j : Nat} {a b : List UInt8} (hij : i < j) (ha : ks[i]? = some a) (hb : ks[j]? = some b) : Lib.compareBytes a b = -1 := by
 induction ks generalizing i j with
 | nil => simp at ha
 | cons c r ih =>
  obtain ⟨h1, h2⟩ := rises_cons h
  cases j with
  | zero => omega
  | succ j =>
   cases i with
   | zero =>
    simp at ha; subst ha
    exact h2 b (List.mem_of_getElem? (by simpa using hb))
   | succ i => exact ih h1 (i := i) (j := j) (by omega) (by simpa using ha) (by simpa using hb)

theorem find_at {m : List Mem} (h : rises (m.map (·.1)) = true) {i : Nat} {p : Mem} (hp : m[i]? = some p) : find m p.1 = some p.2 := by
 unfold find
 induction m generalizing i with
 | nil => simp at hp
 | cons q m ih =>
  simp only [List.map_cons] at h
  obtain ⟨h1, h2⟩ := rises_cons h
  cases i with
  | zero => simp at hp; subst hp; simp
  | succ i =>
   have hm : p ∈ m := List.mem_of_getElem? (by simpa using hp)
   have := h2 p.1 (List.mem_map_of_mem hm)
   have hne : ¬ q.1 = p.1 := fun e => by rw [e, Nm.bytes_self] at this; omega
   rw [List.find?_cons_of_neg (by simpa using hne)]
   exact ih h1 (by simpa using hp)
theorem find_none {m : List Mem} {key : List UInt8} (h : ∀ p ∈ m, p.1 ≠ key) : find m key = none := by
 unfold find
 rw [List.find?_eq_none.2 (by intro p hp; simpa using h p hp)]
 rfl

def Found (m : List Mem) (key : List UInt8) (i : Nat) (b : Bool) : Prop :=
 i ≤ m.length ∧ (b = true → ∃ p, m[i]? = some p ∧ p.1 = key) ∧ (b = false → ∀ p ∈ m, p.1 ≠ key)
def Halving (m : List Mem) (key : List UInt8) (i j : Nat) : Prop :=
 i ≤ j ∧ j ≤ m.length ∧ (∀ k p, k < i → m[k]? = some p → Lib.compareBytes p.1 key = -1) ∧ (∀ k p, j ≤ k → m[k]? = some p → ¬ Lib.compareBytes p.1 key = -1)
theorem Halving.start (m : List Mem) (key : List UInt8) : Halving m key 0 m.length :=
 ⟨by omega, Nat.le_refl _, fun k p h => by omega, fun k p h hp => by have := (List.getElem?_eq_some_iff.1 hp).1; omega⟩
theorem Halving.up {m : List Mem} {key : List UInt8} {i j h : Nat} (hr : rises (m.map (·.1)) = true) (H : Halving m key i j) (h1 : i ≤ h) (h2 : h < j) {p : Mem} (hp : m[h]? = some p) (hc : Lib.compareBytes p.1 key = -1) : Halving m key (h + 1) j := by
 refine ⟨by omega, H.2.1, fun k q hk hq => ?_, H.2.2.2⟩
 by_cases e : k = h
 ·subst e; rw [hp] at hq; cases hq; exact hc
 ·exact less_trans (rises_at hr (i := k) (j := h) (by omega) (by simp [hq]) (by simp [hp])) hc
theorem Halving.down {m : List Mem} {key : List UInt8} {i j h : Nat} (hr : rises (m.map (·.1)) = true) (H : Halving m key i j) (h1 : i ≤ h) (h2 : h < j) {p : Mem} (hp : m[h]? = some p) (hc : ¬ Lib.compareBytes p.1 key = -1) : Halving m key i h := by
 refine ⟨h1, by have := H.2.1; omega, H.2.2.1, fun k q hk hq => ?_⟩
 by_cases e : k = h
 ·subst e; rw [hp] at hq; cases hq; exact hc
 ·intro hc'
  exact hc (less_trans (rises_at hr (i := h) (j := k) (by omega) (by simp [hp]) (by simp [hq])) hc')
theorem Halving.done {m : List Mem} {key : List UInt8} {i : Nat} (hr : rises (m.map (·.1)) = true) (H : Halving m key i i) {p : Mem} (hp : m[i]? = some p) : Found m key i (Lib.compareBytes p.1 key == 0) := by
 refine ⟨H.2.1, fun h => ⟨p, hp, Nm.bytes_zero _ _ (by simpa using h)⟩, fun h q hq => ?_⟩
 obtain ⟨k, hk⟩ := List.getElem?_of_mem hq
 intro e
 subst e
 have hs := Nm.bytes_self q.1
 rcases Nat.lt_trichotomy k i with h1 | rfl | h1
 ·have := H.2.2.1 k q h1 hk; omega
 ·rw [hp] at hk; cases hk; simp [hs] at h
 ·have h2 := rises_at hr (i := i) (j := k) (a := p.1) (b := q.1) h1 (by simp [hp]) (by simp [hk])
  exact H.2.2.2 i p (Nat.le_refl _) hp h2
theorem Halving.none_ {m : List Mem} {key : List UInt8} {i : Nat} (H : Halving m key i i) (hi : i = m.length) : Found m key i false := by
 refine ⟨H.2.1, (fun h => by cases h), fun h q hq e => ?_⟩
 obtain ⟨k, hk⟩ := List.getElem?_of_mem hq
 subst e
 have := H.2.2.1 k q (by have := (List.getElem?_eq_some_iff.1 hk).1; omega) hk
 rw [Nm.bytes_self] at this; omega

theorem size_pos (v : Vl) : 1 ≤ v.size := by cases v; simp only [Vl.size]; omega
theorem sizeL_mem {l : List Vl} {v : Vl} (h : v ∈ l) : v.size ≤ sizeL l := by
 induction l with
 | nil => cases h
 | cons u l ih =>
  simp only [sizeL]
  rcases List.mem_cons.1 h with rfl | h
  ·omega
  ·have := ih h; omega
theorem sizeM_mem {m : List Mem} {p : Mem} (h : p ∈ m) : p.2.size ≤ sizeM m := by
 induction m with
 | nil => cases h
 | cons q m ih =>
  simp only [sizeM]
  rcases List.mem_cons.1 h with rfl | h
  ·obtain ⟨x, v⟩ := p; simp only [sizeP]; omega
  ·have := ih h; omega
theorem sizeL_len (l : List Vl) : l.length ≤ sizeL l := by
 induction l with
 | nil => simp
 | cons v l ih => have := size_pos v; simp only [List.length_cons, sizeL]; omega
theorem sizeM_len (m : List Mem) : m.length ≤ sizeM m := by
 induction m with
 | nil => simp
 | cons p m ih => obtain ⟨x, v⟩ := p; have := size_pos v; simp only [List.length_cons, sizeM, sizeP]; omega

end Go.Proofs.YtolkfgikomminaaGreatDoor.Js

namespace Go.Proofs.YtolkfgikomminaaGreatDoor.Ps
open Js

inductive R (α : Type) where
 | ok (v : α) (t : List UInt8)
 | bad (code left : Nat)

def blank (c : UInt8) : Bool := decide (c = 32) || decide (c = 9) || decide (c = 10) || decide (c = 13)
def skip (t : List UInt8) : List UInt8 := t.dropWhile blank

def qtext (t : List UInt8) : R (List UInt8) :=
 match t with
 | [] => .bad 1 0
 | c :: u => if c = 34 then (match St.run (u.length + 1) u [] 1 with
   | .ok o p => .ok o ((c :: u).drop p)
   | .bad k p => .bad k ((c :: u).length - p)) else .bad 1 (c :: u).length

def number (t : List UInt8) : R Nm.Num :=
 if (Nm.endOf t).2 = false then .bad 1 (Nm.endOf t).1.length
 else if (Nm.parse (t.take (t.length - (Nm.endOf t).1.length))).2 = 0 then .ok (Nm.parse (t.take (t.length - (Nm.endOf t).1.length))).1 (Nm.endOf t).1
 else .bad 5 t.length

def lit : List UInt8 → List UInt8 → R Unit
 | [], t => .ok () t
 | _ :: _, [] => .bad 1 0
 | c :: w, d :: t => if d = c then lit w t else .bad 1 (d :: t).length

def R.map {α β : Type} (f : α → β) : R α → R β
 | .ok v t => .ok (f v) t
 | .bad c l => .bad c l
def R.trail {α : Type} : R α → R α
 | .ok v t => .ok v (skip t)
 | .bad c l => .bad c l

abbrev mkN : Vl := .mk 0 false Nm.Num.zero [] [] []
abbrev mkB (b : Bool) : Vl := .mk 1 b Nm.Num.zero [] [] []
abbrev mkD (n : Nm.Num) : Vl := .mk 2 false n [] [] []
abbrev mkS (s : List UInt8) : Vl := .mk 3 false Nm.Num.zero s [] []
abbrev mkA (l : List Vl) : Vl := .mk 4 false Nm.Num.zero [] l []
abbrev mkO (m : List Mem) : Vl := .mk 5 false Nm.Num.zero [] [] m

def less (key : List UInt8) (p : Mem) : Bool := decide (Lib.compareBytes p.1 key = -1)
def ins (m : List Mem) (key : List UInt8) (v : Vl) : List Mem := m.takeWhile (less key) ++ (key, v) :: m.dropWhile (less key)

def single (c : UInt8) (u : List UInt8) : R Vl :=
 if c = 34 then (qtext (c :: u)).map mkS
 else if c = 110 then (lit [110, 117, 108, 108] (c :: u)).map fun _ => mkN
 else if c = 116 then (lit [116, 114, 117, 101] (c :: u)).map fun _ => mkB true
 else if c = 102 then (lit [102, 97, 108, 115, 101] (c :: u)).map fun _ => mkB false
 else if c = 45 ∨ Nm.dig c = true then (number (c :: u)).map mkD
 else .bad 1 (c :: u).length

mutual
def value : Nat → Nat → List UInt8 → R Vl
 | 0, _, _ => .bad 1 0
 | f + 1, d, t => R.trail (match skip t with
  | [] => .bad 1 0
  | c :: u => if c = 123 then obj f d u else if c = 91 then arr f d u else single c u)
def arr : Nat → Nat → List UInt8 → R Vl
 | 0, _, _ => .bad 1 0
 | f + 1, d, u => if d = 32 then .bad 3 (u.length + 1) else if (skip u).head? = some 93 then .ok (mkA []) (skip u).tail else elems f (d + 1) (skip u) []
def elems : Nat → Nat → List UInt8 → List Vl → R Vl
 | 0, _, _, _ => .bad 1 0
 | f + 1, d, t, acc => match value f d t with
  | .bad c l => .bad c l
  | .ok _ [] => .bad 1 0
  | .ok v (c :: u) => if c = 44 then elems f d u (acc ++ [v]) else if c = 93 then .ok (mkA (acc ++ [v])) u else .bad 1 (c :: u).length
def obj : Nat → Nat → List UInt8 → R Vl
 | 0, _, _ => .bad 1 0
 | f + 1, d, u => if d = 32 then .bad 3 (u.length + 1) else if (skip u).head? = some 125 then .ok (mkO []) (skip u).tail else mems f (d + 1) (skip u) []
def mems : Nat → Nat → List UInt8 → List Mem → R Vl
 | 0, _, _, _ => .bad 1 0
 | f + 1, d, t, acc => match qtext (skip t) with
  | .bad c l => .bad c l
  | .ok key t2 => if (find acc key).isSome = true then .bad 4 (skip t).length else match skip t2 with
   | [] => .bad 1 0
   | c :: t4 => if c = 58 then (match value f d t4 with
    | .bad c l => .bad c l
    | .ok _ [] => .bad 1 0
    | .ok x (c :: u) => if c = 44 then mems f d u (ins acc key x) else if c = 125 then .ok (mkO (ins acc key x)) u else .bad 1 (c :: u).length) else .bad 1 (c :: t4).length
end

def parse (s : List UInt8) : R Vl :=
 if 20000 < s.length then .bad 5 (s.length - 20000) else match value (3 * s.length + 1) 0 s with
 | .bad c l => .bad c l
 | .ok v [] => .ok v []
 | .ok _ (c :: u) => .bad 1 (c :: u).length

theorem skip_len (t : List UInt8) : (skip t).length ≤ t.length := (List.dropWhile_sublist blank).length_le
theorem skip_drop (t : List UInt8) : skip t = t.drop (t.length - (skip t).length) := by
 unfold skip
 induction t with
 | nil => rfl
 | cons c t ih =>
  by_cases h : blank c = true
  ·rw [List.dropWhile_cons_of_pos h]
   have := (List.dropWhile_sublist blank (l := t)).length_le
   rw [List.length_cons, show t.length + 1 - (t.dropWhile blank).length = (t.length - (t.dropWhile blank).length) + 1 by omega, List.drop_succ_cons]
   exact ih
  ·rw [List.dropWhile_cons_of_neg h]
   simp
theorem skip_cons (c : UInt8) (t : List UInt8) : skip (c :: t) = if blank c = true then skip t else c :: t := by
 unfold skip
 by_cases h : blank c = true
 ·rw [List.dropWhile_cons_of_pos h, if_pos h]
 ·rw [List.dropWhile_cons_of_neg h, if_neg h]
theorem run_shift : ∀ (f f' : Nat) (l out : List UInt8) (i n : Nat), l.length < f → l.length < f' →
  St.run f l out (i + n) = match St.run f' l out i with
   | .ok o p => .ok o (p + n)
   | .bad k p => .bad k (p + n)
 | 0, _, _, _, _, _, h, _ => by omega
 | _, 0, _, _, _, _, _, h => by omega
 | f + 1, f' + 1, [], out, i, n, _, _ => rfl
 | f + 1, f' + 1, c :: l, out, i, n, h, h' => by
  by_cases hc : c = 34
  ·subst hc
   rw [St.run_stop, St.run_stop]
   simp only
   rw [show i + n + 1 = i + 1 + n by omega]
  ·cases hk : St.chr (c :: l) with
   | bad k e =>
    rw [St.run_bad f out _ hc hk, St.run_bad f' out _ hc hk]
    simp only
    rw [show i + n + e = i + e + n by omega]
   | ok r m =>
    obtain ⟨k1, k2, k3, k4⟩ := St.chr_ok hk
    rw [St.run_more f out _ hc hk, St.run_more f' out _ hc hk, show i + n + m = i + m + n by omega]
    have hd : ((c :: l).drop m).length ≤ l.length := by rw [List.length_drop]; simp only [List.length_cons]; omega
    exact run_shift f f' _ _ _ _ (by simp only [List.length_cons] at h; omega) (by simp only [List.length_cons] at h'; omega)
theorem run_place : ∀ (f : Nat) (l out : List UInt8) (i : Nat) {k p : Nat}, St.run f l out i = .bad k p → i ≤ p ∧ (l.length < f → p ≤ i + l.length)
 | 0, l, out, i, k, p, h => by
  injection h with h1 h2; subst h2
  exact ⟨Nat.le_refl _, fun h => by omega⟩
 | f + 1, [], out, i, k, p, h => by injection h with h1 h2; omega
 | f + 1, c :: l, out, i, k, p, h => by
  by_cases hc : c = 34
  ·subst hc; rw [St.run_stop] at h; cases h
  ·cases hk : St.chr (c :: l) with
   | bad q e =>
    rw [St.run_bad f out i hc hk] at h
    injection h with h1 h2
    have := St.chr_bad hk
    exact ⟨by omega, fun _ => by omega⟩
   | ok r n =>
    obtain ⟨k1, k2, k3, k4⟩ := St.chr_ok hk
    rw [St.run_more f out i hc hk] at h
    have := run_place f _ _ _ h
    rw [List.length_drop] at this
    simp only [List.length_cons] at k2 this ⊢
    refine ⟨by omega, fun hf => ?_⟩
    have := this.2 (by omega)
    omega

theorem qtext_unq (b : List UInt8) (a : Nat) (t : List UInt8) (ht : b.drop a = t) (ha : a + t.length = b.length) :
  match qtext t with
  | .ok o u => ∃ n, St.unq b a = ⟨o, n, 0, 0⟩ ∧ a + n + u.length = b.length ∧ b.drop (a + n) = u ∧ u.length < t.length ∧ St.Txt o
  | .bad k l => ∃ p : Nat, St.unq b a = ⟨[], 0, k, p⟩ ∧ (k = 1 ∨ k = 2) ∧ p + l = b.length ∧ l ≤ t.length := by
 cases t with
 | nil =>
  simp only [qtext]
  refine ⟨a, ?_, by simp, by simpa using ha, Nat.le_refl _⟩
  unfold St.unq
  rw [if_neg]
  rintro ⟨_, h2⟩
  rw [Int.toNat_natCast, List.getElem?_eq_none (by simp at ha; omega)] at h2
  cases h2
 | cons c u =>
  have hat : b[a]? = some c := by
   have : (b.drop a)[0]? = some c := by rw [ht]; rfl
   rw [List.getElem?_drop] at this
   simpa using this
  have hdr : b.drop (a + 1) = u := by rw [← List.drop_drop, ht]; rfl
  have hlen : u.length + 1 + a = b.length := by simp only [List.length_cons] at ha; omega
  by_cases hc : c = 34
  ·subst hc
   have hu : St.unq b a = (St.run (b.length + 1) u [] (a + 1)).ans a := by
    unfold St.unq
    rw [Int.toNat_natCast, hat, if_pos ⟨Int.natCast_nonneg _, rfl⟩, hdr]
   have hsh := run_shift (b.length + 1) (u.length + 1) u [] 1 a (by omega) (by omega)
   rw [show 1 + a = a + 1 by omega] at hsh
   simp only [qtext, if_pos]
   cases hr : St.run (u.length + 1) u [] 1 with
   | ok o p =>
    rw [hr] at hsh
    simp only at hsh ⊢
    have hp := St.run_past _ _ _ _ hr
    have htx := St.run_txt _ _ _ _ hr .nil
    refine ⟨p, ?_, ?_, ?_, ?_, htx⟩
    ·rw [hu, hsh]
     simp only [St.Res.ans]
     rw [show p + a - a = p by omega]
    ·rw [List.length_drop]; simp only [List.length_cons]; omega
    ·rw [← List.drop_drop, ht]
    ·rw [List.length_drop]; simp only [List.length_cons]; omega
   | bad k p =>
    rw [hr] at hsh
    simp only at hsh ⊢
    have hp := run_place _ _ _ _ hr
    have hp2 := hp.2 (by omega)
    refine ⟨p + a, ?_, St.run_code _ _ _ _ hr, ?_, by omega⟩
    ·rw [hu, hsh]; rfl
    ·simp only [List.length_cons]; omega
  ·simp only [qtext, if_neg hc]
   refine ⟨a, ?_, by simp, by simpa using ha, Nat.le_refl _⟩
   unfold St.unq
   rw [if_neg]
   rintro ⟨_, h2⟩
   rw [Int.toNat_natCast, hat] at h2
   exact hc (Option.some.inj h2)

theorem qtext_ok {t o u : List UInt8} (h : qtext t = .ok o u) : u.length < t.length ∧ St.Txt o ∧ u = t.drop (t.length - u.length) := by
 have := qtext_unq t 0 t rfl (by simp)
 rw [h] at this
 obtain ⟨n, h1, h2, h3, h4, h5⟩ := this
 refine ⟨h4, h5, ?_⟩
 rw [← h3]
 congr 1
 rw [h3]; omega
theorem qtext_bad {t : List UInt8} {k l : Nat} (h : qtext t = .bad k l) : (k = 1 ∨ k = 2) ∧ l ≤ t.length := by
 have := qtext_unq t 0 t rfl (by simp)
 rw [h] at this
 obtain ⟨p, h1, h2, h3, h4⟩ := this
 exact ⟨h2, h4⟩

end Go.Proofs.YtolkfgikomminaaGreatDoor.Ps

namespace Go.Proofs.YtolkfgikomminaaGreatDoor.Ps
open Js

theorem txt_text {l : List UInt8} (h : St.Txt l) : ∀ f, l.length ≤ f → St.textGo f l = true := by
 induction h with
 | nil => intro f _; cases f <;> rfl
 | cons l h _ ih =>
  intro f hf
  have hl := St.utf8_le l
  cases l with
  | nil => cases f <;> rfl
  | cons c t =>
   cases f with
   | zero => simp at hf
   | succ f =>
    rw [St.textGo, if_neg h]
    refine ih f ?_
    rw [List.length_drop]
    simp only [List.length_cons] at hf ⊢
    omega
theorem text_of_txt {l : List UInt8} (h : St.Txt l) : St.text l = true := txt_text h _ (Nat.le_refl _)

theorem suf_drop (l : List UInt8) : Nm.suf l = l.drop (Nm.pre l).length := by
 have h2 := Nm.pre_suf l
 have h3 : (Nm.pre l ++ Nm.suf l).drop (Nm.pre l).length = Nm.suf l := List.drop_left
 rw [h2] at h3
 exact h3.symm
def Rest (u t : List UInt8) : Prop := ∃ n, n ≤ t.length ∧ u = t.drop n
theorem Rest.refl (t : List UInt8) : Rest t t := ⟨0, Nat.zero_le _, rfl⟩
theorem Rest.trans {a b c : List UInt8} (h : Rest a b) (k : Rest b c) : Rest a c := by
 obtain ⟨n, h1, rfl⟩ := h
 obtain ⟨m, h2, rfl⟩ := k
 rw [List.length_drop] at h1
 exact ⟨m + n, by omega, by rw [List.drop_drop]⟩
theorem Rest.len {a b : List UInt8} (h : Rest a b) : a.length ≤ b.length := by
 obtain ⟨n, h1, rfl⟩ := h; rw [List.length_drop]; omega
theorem Rest.suf (l : List UInt8) : Rest (Nm.suf l) l := ⟨_, Nm.pre_len l, suf_drop l⟩
theorem Rest.cons (c : UInt8) (l : List UInt8) : Rest l (c :: l) := ⟨1, by simp, rfl⟩
theorem Rest.unsgn (l : List UInt8) : Rest (Nm.unsgn l) l := by
 cases l with
 | nil => exact .refl _
 | cons c r =>
  simp only [Nm.unsgn]
  by_cases h : c = 45 ∨ c = 43
  ·rw [if_pos h]; exact .cons _ _
  ·rw [if_neg h]; exact .refl _
theorem Rest.eq {a b : List UInt8} (h : Rest a b) : a = b.drop (b.length - a.length) := by
 obtain ⟨n, h1, rfl⟩ := h
 rw [List.length_drop, show b.length - (b.length - n) = n by omega]
theorem Rest.skip (t : List UInt8) : Rest (skip t) t := ⟨_, by omega, skip_drop t⟩

theorem endExp_rest (t : List UInt8) : Rest (Nm.endExp t).1 t := by
 cases t with
 | nil => exact .refl _
 | cons c r =>
  simp only [Nm.endExp]
  by_cases h : c = 101 ∨ c = 69
  ·rw [if_pos h]; exact ((Rest.suf _).trans (Rest.unsgn r)).trans (.cons _ _)
  ·rw [if_neg h]; exact .refl _
theorem endPoint_rest (t : List UInt8) : Rest (Nm.endPoint t).1 t := by
 unfold Nm.endPoint
 split
 ·split
  ·exact (Rest.suf _).trans (.cons _ _)
  ·exact ((endExp_rest _).trans (Rest.suf _)).trans (.cons _ _)
 ·exact endExp_rest _
theorem trim_rest (t : List UInt8) : Rest (Lib.trimPrefix t [45]) t := by
 unfold Lib.trimPrefix
 split
 ·rename_i h
  refine ⟨1, ?_, rfl⟩
  cases t with
  | nil => simp [Lib.hasPrefix] at h
  | cons c t => simp
 ·exact .refl _
theorem end_rest (t : List UInt8) : Rest (Nm.endOf t).1 t ∧ ((Nm.endOf t).2 = true → (Nm.endOf t).1.length < t.length) := by
 have h0 := trim_rest t
 unfold Nm.endOf
 simp only
 generalize Lib.trimPrefix t [45] = t1 at h0 ⊢
 by_cases hp : (Nm.pre t1).isEmpty = true
 ·rw [if_pos hp]
  exact ⟨h0, fun h => by cases h⟩
 ·rw [if_neg hp]
  have hl := h0.len
  have h2 := endPoint_rest (if t1.head? = some 48 then t1.drop 1 else Nm.suf t1)
  have hpl : 0 < (Nm.pre t1).length := by
   rcases Nat.eq_zero_or_pos (Nm.pre t1).length with h | h
   ·rw [List.length_eq_zero_iff] at h; rw [h] at hp; simp at hp
   ·exact h
  have hpl2 := Nm.pre_len t1
  have h3 : Rest (if t1.head? = some 48 then t1.drop 1 else Nm.suf t1) t1 ∧ (if t1.head? = some 48 then t1.drop 1 else Nm.suf t1).length < t1.length := by
   split
   ·exact ⟨⟨1, by omega, rfl⟩, by rw [List.length_drop]; omega⟩
   ·exact ⟨Rest.suf _, by rw [suf_drop, List.length_drop]; omega⟩
  refine ⟨(h2.trans h3.1).trans h0, fun _ => ?_⟩
  have := h2.len
  omega

theorem number_ok {t : List UInt8} {n : Nm.Num} {u : List UInt8} (h : number t = .ok n u) : mayNum n = true ∧ Rest u t ∧ u.length < t.length ∧ (Nm.endOf t).2 = true ∧ u = (Nm.endOf t).1 ∧ Nm.parse (t.take (t.length - u.length)) = (n, 0) := by
 unfold number at h
 have he := end_rest t
 split at h
 ·cases h
 ·rename_i h1
  split at h
  ·rename_i h2
   injection h with h3 h4
   subst h3 h4
   exact ⟨May_mayNum (Nm.laws.may _ h2), he.1, he.2 (by simpa using h1), by simpa using h1, rfl, by rw [Prod.ext_iff]; exact ⟨rfl, h2⟩⟩
  ·cases h
theorem number_bad {t : List UInt8} {k l : Nat} (h : number t = .bad k l) : (k = 1 ∨ k = 5) ∧ l ≤ t.length := by
 unfold number at h
 have he := (end_rest t).1.len
 split at h
 ·injection h with h1 h2; omega
 ·split at h
  ·cases h
  ·injection h with h1 h2; omega
theorem lit_ok : ∀ {w t u : List UInt8} {x : Unit}, lit w t = .ok x u → t = w ++ u
 | [], t, u, x, h => by injection h with h1 h2
 | _ :: _, [], u, x, h => by cases h
 | c :: w, d :: t, u, x, h => by
  unfold lit at h
  split at h
  ·rename_i e; subst e; rw [lit_ok h]; rfl
  ·cases h
theorem lit_bad : ∀ {w t : List UInt8} {k l : Nat}, lit w t = .bad k l → k = 1 ∧ l ≤ t.length
 | [], t, k, l, h => by cases h
 | _ :: _, [], k, l, h => by injection h with h1 h2; exact ⟨h1.symm, by omega⟩
 | c :: w, d :: t, k, l, h => by
  unfold lit at h
  split at h
  ·have := lit_bad h; simp only [List.length_cons]; omega
  ·injection h with h1 h2; exact ⟨h1.symm, by omega⟩

theorem rises_iff (ks : List (List UInt8)) : rises ks = true ↔ ks.Pairwise (fun a b => Lib.compareBytes a b = -1) := by
 induction ks with
 | nil => simp [rises]
 | cons a r ih =>
  constructor
  ·intro h
   obtain ⟨h1, h2⟩ := rises_cons h
   exact List.pairwise_cons.2 ⟨h2, ih.1 h1⟩
  ·intro h
   obtain ⟨h1, h2⟩ := List.pairwise_cons.1 h
   cases r with
   | nil => rfl
   | cons b r =>
    simp only [rises, Bool.and_eq_true, decide_eq_true_eq]
    exact ⟨h1 b (by simp), ih.2 h2⟩
theorem find_isSome {m : List Mem} {key : List UInt8} (h : ¬ (find m key).isSome = true) : ∀ p ∈ m, p.1 ≠ key := by
 intro p hp e
 apply h
 unfold find
 rw [Option.isSome_map, List.find?_isSome]
 exact ⟨p, hp, by simpa using e⟩
theorem take_less {m : List Mem} {key : List UInt8} {p : Mem} (h : p ∈ m.takeWhile (less key)) : Lib.compareBytes p.1 key = -1 := by
 induction m with
 | nil => simp at h
 | cons q m ih =>
  by_cases hq : less key q = true
  ·rw [List.takeWhile_cons_of_pos hq] at h
   rcases List.mem_cons.1 h with rfl | h
   ·simpa [less] using hq
   ·exact ih h
  ·rw [List.takeWhile_cons_of_neg hq] at h; simp at h
theorem drop_more {m : List Mem} {key : List UInt8} (hr : rises (m.map (·.1)) = true) (hn : ∀ p ∈ m, p.1 ≠ key) {p : Mem} (h : p ∈ m.dropWhile (less key)) : Lib.compareBytes key p.1 = -1 := by
 induction m with
 | nil => simp at h
 | cons q m ih =>
  obtain ⟨h1, h2⟩ := rises_cons (by simpa using hr)
  by_cases hq : less key q = true
  ·rw [List.dropWhile_cons_of_pos hq] at h
   exact ih h1 (fun p hp => hn p (by simp [hp])) h
  ·rw [List.dropWhile_cons_of_neg hq] at h
   have hq' : ¬ Lib.compareBytes q.1 key = -1 := by simpa [less] using hq
   have hkq : Lib.compareBytes key q.1 = -1 := by
    have e1 := Nm.bytes_range q.1 key
    have e2 := Nm.bytes_flip key q.1
    have e3 : Lib.compareBytes q.1 key ≠ 0 := fun e => hn q (by simp) (Nm.bytes_zero _ _ e)
    omega
   rcases List.mem_cons.1 h with rfl | h
   ·exact hkq
   ·exact less_trans hkq (h2 p.1 (List.mem_map_of_mem h))
theorem ins_rises {m : List Mem} {key : List UInt8} (v : Vl) (hr : rises (m.map (·.1)) = true) (hn : ∀ p ∈ m, p.1 ≠ key) : rises ((ins m key v).map (·.1)) = true := by
 rw [rises_iff] at hr ⊢
 have hm : m.takeWhile (less key) ++ m.dropWhile (less key) = m := List.takeWhile_append_dropWhile
 have hr' := hr
 rw [← hm, List.map_append, List.pairwise_append] at hr'
 obtain ⟨h1, h2, h3⟩ := hr'
 unfold ins
 rw [List.map_append, List.pairwise_append]
 refine ⟨h1, ?_, ?_⟩
 ·rw [List.map_cons, List.pairwise_cons]
  refine ⟨fun b hb => ?_, h2⟩
  obtain ⟨p, hp, rfl⟩ := List.mem_map.1 hb
  exact drop_more ((rises_iff _).2 hr) hn hp
 ·intro a ha b hb
  rw [List.map_cons] at hb
  rcases List.mem_cons.1 hb with rfl | hb
  ·obtain ⟨p, hp, rfl⟩ := List.mem_map.1 ha
   exact take_less hp
  ·exact h3 a ha b hb
theorem mem_ins {m : List Mem} {key : List UInt8} {v : Vl} {p : Mem} (h : p ∈ ins m key v) : p ∈ m ∨ p = (key, v) := by
 unfold ins at h
 rcases List.mem_append.1 h with h | h
 ·exact .inl ((List.takeWhile_sublist _).mem h)
 ·rcases List.mem_cons.1 h with h | h
  ·exact .inr h
  ·exact .inl ((List.dropWhile_sublist _).mem h)
theorem sizeM_append (a b : List Mem) : sizeM (a ++ b) = sizeM a + sizeM b := by
 induction a with
 | nil => simp [sizeM]
 | cons p a ih => simp only [List.cons_append, sizeM, ih]; omega
theorem sizeL_append (a b : List Vl) : sizeL (a ++ b) = sizeL a + sizeL b := by
 induction a with
 | nil => simp [sizeL]
 | cons p a ih => simp only [List.cons_append, sizeL, ih]; omega
theorem sizeM_ins (m : List Mem) (key : List UInt8) (v : Vl) : sizeM (ins m key v) = sizeM m + v.size := by
 have hm : m.takeWhile (less key) ++ m.dropWhile (less key) = m := List.takeWhile_append_dropWhile
 have : sizeM m = sizeM (m.takeWhile (less key)) + sizeM (m.dropWhile (less key)) := by rw [← sizeM_append, hm]
 unfold ins
 rw [sizeM_append, this]
 simp only [sizeM, sizeP]; omega
theorem ins_length (m : List Mem) (key : List UInt8) (v : Vl) : (ins m key v).length = m.length + 1 := by
 have hm : m.takeWhile (less key) ++ m.dropWhile (less key) = m := List.takeWhile_append_dropWhile
 have : m.length = (m.takeWhile (less key)).length + (m.dropWhile (less key)).length := by rw [← List.length_append, hm]
 unfold ins
 rw [List.length_append, List.length_cons]; omega

def Good (d : Nat) (v : Vl) : Prop := v.may = true ∧ v.depth + d ≤ 32
def Told (d n : Nat) : R Vl → Prop
 | .ok v u => Good d v ∧ v.size + u.length ≤ n
 | .bad k l => 1 ≤ k ∧ k ≤ 5 ∧ l ≤ n

theorem depthL_le {l : List Vl} {n : Nat} (h : ∀ v ∈ l, v.depth ≤ n) : depthL l ≤ n := by
 induction l with
 | nil => exact Nat.zero_le _
 | cons v l ih =>
  have h1 := h v (by simp)
  have h2 := ih (fun x hx => h x (by simp [hx]))
  simp only [depthL]; omega
theorem depthM_le {m : List Mem} {n : Nat} (h : ∀ p ∈ m, p.2.depth ≤ n) : depthM m ≤ n := by
 induction m with
 | nil => exact Nat.zero_le _
 | cons p m ih =>
  obtain ⟨x, v⟩ := p
  have h1 := h (x, v) (by simp)
  have h2 := ih (fun y hy => h y (by simp [hy]))
  simp only [depthM, depthP] at h1 ⊢; omega

theorem mayN : mkN.may = true := by decide
theorem mayB (b : Bool) : (mkB b).may = true := by cases b <;> decide
theorem mayD {n : Nm.Num} (h : mayNum n = true) : (mkD n).may = true := by
 simp only [Vl.may, ownOf, h, mayL, mayM]
 simp [St.text, St.textGo, rises]
theorem mayS {s : List UInt8} (h : St.text s = true) : (mkS s).may = true := by
 simp only [Vl.may, ownOf, h, mayL, mayM]
 simp [mayNum, Nm.Num.zero, rises]
theorem mayA {l : List Vl} (h : ∀ v ∈ l, v.may = true) : (mkA l).may = true := by
 simp only [Vl.may, ownOf, (mayL_iff l).2 h, mayM]
 simp [mayNum, Nm.Num.zero, rises, St.text, St.textGo]
theorem mayO {m : List Mem} (h : ∀ p ∈ m, St.text p.1 = true ∧ p.2.may = true) (hr : rises (m.map (·.1)) = true) : (mkO m).may = true := by
 simp only [Vl.may, ownOf, (mayM_iff m).2 h, mayL, hr]
 simp [mayNum, Nm.Num.zero, St.text, St.textGo]

theorem single_told (d : Nat) (hd : d ≤ 32) (c : UInt8) (u : List UInt8) : Told d (c :: u).length (single c u) := by
 unfold single
 split
 ·cases h : qtext (c :: u) with
  | ok o t => have := qtext_ok h; exact ⟨⟨mayS (text_of_txt this.2.1), by simp [Vl.depth, hd]⟩, by simp only [Vl.size, sizeL, sizeM]; omega⟩
  | bad k l => have := qtext_bad h; exact ⟨by omega, by omega, this.2⟩
 split
 ·cases h : lit [110, 117, 108, 108] (c :: u) with
  | ok o t => have := congrArg List.length (lit_ok h); exact ⟨⟨mayN, by simp [Vl.depth, hd]⟩, by simp at this; simp only [Vl.size, sizeL, sizeM, List.length_cons]; omega⟩
  | bad k l => have := lit_bad h; exact ⟨by omega, by omega, this.2⟩
 split
 ·cases h : lit [116, 114, 117, 101] (c :: u) with
  | ok o t => have := congrArg List.length (lit_ok h); exact ⟨⟨mayB _, by simp [Vl.depth, hd]⟩, by simp at this; simp only [Vl.size, sizeL, sizeM, List.length_cons]; omega⟩
  | bad k l => have := lit_bad h; exact ⟨by omega, by omega, this.2⟩
 split
 ·cases h : lit [102, 97, 108, 115, 101] (c :: u) with
  | ok o t => have := congrArg List.length (lit_ok h); exact ⟨⟨mayB _, by simp [Vl.depth, hd]⟩, by simp at this; simp only [Vl.size, sizeL, sizeM, List.length_cons]; omega⟩
  | bad k l => have := lit_bad h; exact ⟨by omega, by omega, this.2⟩
 split
 ·cases h : number (c :: u) with
  | ok o t => have := number_ok h; exact ⟨⟨mayD this.1, by simp [Vl.depth, hd]⟩, by have := this.2.2.1; simp only [Vl.size, sizeL, sizeM]; omega⟩
  | bad k l => have := number_bad h; exact ⟨by omega, by omega, this.2⟩
 ·exact ⟨by omega, by omega, Nat.le_refl _⟩

theorem trail_told {d n : Nat} {r : R Vl} (h : Told d n r) : Told d n r.trail := by
 cases r with
 | ok v t => have := skip_len t; exact ⟨h.1, by have := h.2; omega⟩
 | bad k l => exact h
theorem Told.mono {d n n' : Nat} {r : R Vl} (h : Told d n r) (hn : n ≤ n') : Told d n' r := by
 cases r with
 | ok v t => exact ⟨h.1, by have := h.2; omega⟩
 | bad k l => exact ⟨h.1, h.2.1, by have := h.2.2; omega⟩

theorem told (f : Nat) : (∀ d t, d ≤ 32 → Told d t.length (value f d t)) ∧ (∀ d u, d ≤ 32 → Told d (u.length + 1) (arr f d u)) ∧
  (∀ d t acc, d < 32 → (∀ v ∈ acc, Good (d + 1) v) → Told d (1 + sizeL acc + t.length) (elems f (d + 1) t acc)) ∧ (∀ d u, d ≤ 32 → Told d (u.length + 1) (obj f d u)) ∧
  (∀ d t acc, d < 32 → (∀ p ∈ acc, St.text p.1 = true ∧ Good (d + 1) p.2) → rises (acc.map (·.1)) = true → Told d (1 + sizeM acc + t.length) (mems f (d + 1) t acc)) := by
 induction f with
 | zero =>
  refine ⟨fun d t _ => ?_, fun d t _ => ?_, fun d t acc _ _ => ?_, fun d t _ => ?_, fun d t acc _ _ _ => ?_⟩
  ·unfold value; exact ⟨by omega, by omega, by omega⟩
  ·unfold arr; exact ⟨by omega, by omega, by omega⟩
  ·unfold elems; exact ⟨by omega, by omega, by omega⟩
  ·unfold obj; exact ⟨by omega, by omega, by omega⟩
  ·unfold mems; exact ⟨by omega, by omega, by omega⟩
 | succ f ih =>
  obtain ⟨iv, ia, ie, io, im⟩ := ih
  refine ⟨?_, ?_, ?_, ?_, ?_⟩
  ·intro d t hd
   unfold value
   have hs := skip_len t
   refine Told.mono (n := (skip t).length) (trail_told ?_) hs
   cases skip t with
   | nil => exact ⟨by omega, by omega, Nat.le_refl _⟩
   | cons c u =>
    simp only
    split
    ·exact io d u hd
    split
    ·exact ia d u hd
    ·exact single_told d hd c u
  ·intro d u hd
   unfold arr
   have hs := skip_len u
   split
   ·exact ⟨by omega, by omega, Nat.le_refl _⟩
   split
   ·rename_i h1 h2
    refine ⟨⟨mayA (fun v hv => by cases hv), by simp [Vl.depth, depthL, depthM]; omega⟩, ?_⟩
    have : (skip u).tail.length + 1 ≤ (skip u).length := by cases h : skip u with
     | nil => rw [h] at h2; cases h2
     | cons c t => simp
    simp only [Vl.size, sizeL, sizeM]; omega
   ·exact (ie d (skip u) [] (by omega) (fun v hv => by cases hv)).mono (by simp only [sizeL]; omega)
  ·intro d t acc hd hacc
   unfold elems
   have hv := iv (d + 1) t (by omega)
   cases h : value f (d + 1) t with
   | bad k l => rw [h] at hv; exact ⟨hv.1, hv.2.1, by have := hv.2.2; omega⟩
   | ok v u =>
    rw [h] at hv
    obtain ⟨hg, hsz⟩ := hv
    have hacc' : ∀ x ∈ acc ++ [v], Good (d + 1) x := by
     intro x hx
     rcases List.mem_append.1 hx with hx | hx
     ·exact hacc x hx
     ·rw [List.mem_singleton.1 hx]; exact hg
    have hsl : sizeL (acc ++ [v]) = sizeL acc + v.size := by rw [sizeL_append]; simp [sizeL]
    cases u with
    | nil => exact ⟨by omega, by omega, by omega⟩
    | cons c u =>
     simp only [List.length_cons] at hsz
     simp only
     split
     ·exact (ie d u _ hd hacc').mono (by omega)
     split
     ·refine ⟨⟨mayA (fun x hx => (hacc' x hx).1), ?_⟩, by simp only [Vl.size, sizeM]; omega⟩
      have := depthL_le (n := 31 - d) (fun x hx => by have := (hacc' x hx).2; omega)
      simp only [Vl.depth, depthM]
      rw [if_pos (by simp)]; omega
     ·exact ⟨by omega, by omega, by simp only [List.length_cons]; omega⟩
  ·intro d u hd
   unfold obj
   have hs := skip_len u
   split
   ·exact ⟨by omega, by omega, Nat.le_refl _⟩
   split
   ·rename_i h1 h2
    refine ⟨⟨mayO (fun v hv => by cases hv) rfl, by simp [Vl.depth, depthL, depthM]; omega⟩, ?_⟩
    have : (skip u).tail.length + 1 ≤ (skip u).length := by cases h : skip u with
     | nil => rw [h] at h2; cases h2
     | cons c t => simp
    simp only [Vl.size, sizeL, sizeM]; omega
   ·exact (im d (skip u) [] (by omega) (fun v hv => by cases hv) rfl).mono (by simp only [sizeM]; omega)
  ·intro d t acc hd hacc hr
   unfold mems
   have hs := skip_len t
   cases hq : qtext (skip t) with
   | bad k l => have := qtext_bad hq; exact ⟨by omega, by omega, by omega⟩
   | ok key t2 =>
    have hq2 := qtext_ok hq
    have hs2 := skip_len t2
    simp only
    split
    ·exact ⟨by omega, by omega, by omega⟩
    ·rename_i hn
     have hn' := find_isSome hn
     cases h3 : skip t2 with
     | nil => exact ⟨by omega, by omega, by omega⟩
     | cons c t4 =>
      rw [h3] at hs2
      simp only [List.length_cons] at hs2
      simp only
      split
      ·have hv := iv (d + 1) t4 (by omega)
       cases h : value f (d + 1) t4 with
       | bad k l => rw [h] at hv; exact ⟨hv.1, hv.2.1, by have := hv.2.2; omega⟩
       | ok v u =>
        rw [h] at hv
        obtain ⟨hg, hsz⟩ := hv
        have hacc' : ∀ p ∈ ins acc key v, St.text p.1 = true ∧ Good (d + 1) p.2 := by
         intro x hx
         rcases mem_ins hx with hx | rfl
         ·exact hacc x hx
         ·exact ⟨text_of_txt hq2.2.1, hg⟩
        have hr' := ins_rises v hr hn'
        have hsl := sizeM_ins acc key v
        cases u with
        | nil => exact ⟨by omega, by omega, by omega⟩
        | cons c u =>
         simp only [List.length_cons] at hsz
         simp only
         split
         ·exact (im d u _ hd hacc' hr').mono (by omega)
         split
         ·refine ⟨⟨mayO (fun x hx => ⟨(hacc' x hx).1, (hacc' x hx).2.1⟩) hr', ?_⟩, by simp only [Vl.size, sizeL]; omega⟩
          have := depthM_le (n := 31 - d) (fun x hx => by have := (hacc' x hx).2.2; omega)
          simp only [Vl.depth, depthL]
          rw [if_pos (by simp)]; omega
         ·exact ⟨by omega, by omega, by simp only [List.length_cons]; omega⟩
      ·exact ⟨by omega, by omega, by simp only [List.length_cons]; omega⟩

theorem parse_told (s : List UInt8) : Told 0 s.length (parse s) := by
 unfold parse
 split
 ·exact ⟨by omega, by omega, by omega⟩
 ·have := (told (3 * s.length + 1)).1 0 s (by omega)
  cases h : value (3 * s.length + 1) 0 s with
  | bad k l => rw [h] at this; exact this
  | ok v u =>
   rw [h] at this
   cases u with
   | nil => exact this
   | cons c u => exact ⟨by omega, by omega, by have := this.2; omega⟩

end Go.Proofs.YtolkfgikomminaaGreatDoor.Ps

namespace Go.Proofs.YtolkfgikomminaaGreatDoor.Js

theorem may_levels (v : Vl) : v.may = true → v.levels ≤ v.depth := by
 induction v using Vl.ind with
 | h k b n s l m hl hm =>
  intro h
  obtain ⟨_, _, _, _, _, h4, h5, _, _, h9, h10, h11⟩ := may_own h
  clear h h11
  have el : levelsL l ≤ if l = [] then 0 else depthL l + 1 := by
   clear hm h4
   induction l with
   | nil => simp [levelsL]
   | cons v l ih =>
    simp only [mayL, Bool.and_eq_true] at h9
    have h1 := hl v (by simp) h9.1
    have h2 := ih (fun x hx => hl x (by simp [hx])) h9.2
    rw [if_neg (by simp)]
    simp only [depthL, levelsL]
    split at h2 <;> omega
  have em : levelsM m ≤ if m = [] then 0 else depthM m + 1 := by
   clear hl el h5
   induction m with
   | nil => simp [levelsM]
   | cons p m ih =>
    obtain ⟨x, v⟩ := p
    simp only [mayM, mayP, Bool.and_eq_true] at h10
    have h1 := hm (x, v) (by simp) h10.1.2
    have h2 := ih (fun x hx => hm x (by simp [hx])) h10.2
    rw [if_neg (by simp)]
    simp only [depthM, levelsM, depthP, levelsP] at h1 ⊢
    split at h2 <;> omega
  simp only [Vl.depth, Vl.levels]
  by_cases hk : k = 4 ∨ k = 5
  ·rw [if_pos hk]
   split at el <;> split at em <;> omega
  ·rw [if_neg hk]
   have e4 := h4 (fun e => hk (.inl e))
   have e5 := h5 (fun e => hk (.inr e))
   rw [if_pos e4] at el
   rw [if_pos e5] at em
   omega

mutual
def Vl.slim (N : Nat) : Vl → Prop
 | .mk _ _ n s l m => n.digits.length ≤ N ∧ s.length ≤ N ∧ slimL N l ∧ slimM N m
def slimL (N : Nat) : List Vl → Prop
 | [] => True
 | v :: l => v.slim N ∧ slimL N l
def slimM (N : Nat) : List Mem → Prop
 | [] => True
 | p :: m => slimP N p ∧ slimM N m
def slimP (N : Nat) : Mem → Prop
 | (k, v) => k.length ≤ N ∧ v.slim N
end
theorem slimL_iff (N : Nat) (l : List Vl) : slimL N l ↔ ∀ v ∈ l, v.slim N := by
 induction l with
 | nil => simp [slimL]
 | cons v l ih => simp [slimL, ih]
theorem slimM_iff (N : Nat) (m : List Mem) : slimM N m ↔ ∀ p ∈ m, p.1.length ≤ N ∧ p.2.slim N := by
 induction m with
 | nil => simp [slimM]
 | cons p m ih =>
  obtain ⟨x, v⟩ := p
  simp [slimM, slimP, ih]

end Go.Proofs.YtolkfgikomminaaGreatDoor.Js
namespace Go.Proofs.YtolkfgikomminaaGreatDoor.Ps
open Js

def Slim (N : Nat) (r : R Vl) : Prop := ∀ v u, r = .ok v u → v.slim N ∧ 4 * u.length ≤ N
theorem Slim.bad (N c l : Nat) : Slim N (.bad c l) := fun _ _ h => by cases h
theorem Slim.ok {N : Nat} {v : Vl} {u : List UInt8} (h : v.slim N) (k : 4 * u.length ≤ N) : Slim N (.ok v u) := fun _ _ e => by cases e; exact ⟨h, k⟩
theorem Slim.trail {N : Nat} {r : R Vl} (h : Slim N r) : Slim N r.trail := by
 cases r with
 | ok v t => have := h _ _ rfl; have hs := skip_len t; exact .ok this.1 (by omega)
 | bad c l => exact .bad _ _ _
theorem qtext_slim {t o u : List UInt8} (h : qtext t = .ok o u) : o.length ≤ 4 * t.length := by
 have := qtext_unq t 0 t rfl (by simp)
 rw [h] at this
 obtain ⟨n, h1, _⟩ := this
 have := (St.unq_len t 0).1
 rw [show (0 : Int) = ((0 : Nat) : Int) from rfl, h1] at this
 exact this
theorem mayNum_len {n : Nm.Num} (h : mayNum n = true) : n.digits.length ≤ 60 := by
 rcases mayNum_May h with rfl | ⟨_, _, _, _, h4, _⟩
 ·simp [Nm.Num.zero]
 ·exact h4
theorem single_slim (N : Nat) (hN : 60 ≤ N) (c : UInt8) (u : List UInt8) (hu : 4 * (c :: u).length ≤ N) : Slim N (single c u) := by
 intro v t h
 unfold single at h
 split at h
 ·cases hq : qtext (c :: u) with
  | bad k l => rw [hq] at h; cases h
  | ok o t' =>
   rw [hq] at h
   injection h with h1 h2
   subst h1 h2
   have h3 := qtext_slim hq
   have h4 := (qtext_ok hq).1
   exact ⟨by simp only [Vl.slim, slimL, slimM, Nm.Num.zero]; simp; omega, by omega⟩
 split at h
 ·cases hq : lit [110, 117, 108, 108] (c :: u) with
  | bad k l => rw [hq] at h; cases h
  | ok o t' =>
   rw [hq] at h
   injection h with h1 h2
   subst h1 h2
   have h3 := congrArg List.length (lit_ok hq)
   simp only [List.length_append, List.length_cons, List.length_nil] at h3 hu
   exact ⟨by simp [Vl.slim, slimL, slimM, Nm.Num.zero], by omega⟩
 split at h
 ·cases hq : lit [116, 114, 117, 101] (c :: u) with
  | bad k l => rw [hq] at h; cases h
  | ok o t' =>
   rw [hq] at h
   injection h with h1 h2
   subst h1 h2
   have h3 := congrArg List.length (lit_ok hq)
   simp only [List.length_append, List.length_cons, List.length_nil] at h3 hu
   exact ⟨by simp [Vl.slim, slimL, slimM, Nm.Num.zero], by omega⟩
 split at h
 ·cases hq : lit [102, 97, 108, 115, 101] (c :: u) with
  | bad k l => rw [hq] at h; cases h
  | ok o t' =>
   rw [hq] at h
   injection h with h1 h2
   subst h1 h2
   have h3 := congrArg List.length (lit_ok hq)
   simp only [List.length_append, List.length_cons, List.length_nil] at h3 hu
   exact ⟨by simp [Vl.slim, slimL, slimM, Nm.Num.zero], by omega⟩
 split at h
 ·cases hq : number (c :: u) with
  | bad k l => rw [hq] at h; cases h
  | ok o t' =>
   rw [hq] at h
   injection h with h1 h2
   subst h1 h2
   have h3 := number_ok hq
   have h4 := mayNum_len h3.1
   exact ⟨by simp only [Vl.slim, slimL, slimM]; simp; omega, by omega⟩
 ·cases h

theorem slim_all (N : Nat) (hN : 60 ≤ N) (f : Nat) : (∀ d t, 4 * t.length ≤ N → Slim N (value f d t)) ∧ (∀ d u, 4 * u.length ≤ N → Slim N (arr f d u)) ∧
  (∀ d t acc, 4 * t.length ≤ N → (∀ v ∈ acc, Vl.slim N v) → Slim N (elems f d t acc)) ∧ (∀ d u, 4 * u.length ≤ N → Slim N (obj f d u)) ∧
  (∀ d t acc, 4 * t.length ≤ N → (∀ p ∈ acc, p.1.length ≤ N ∧ Vl.slim N p.2) → Slim N (mems f d t acc)) := by
 have hA : ∀ l : List Vl, (∀ v ∈ l, Vl.slim N v) → Vl.slim N (mkA l) := fun l h => by
  simp only [Vl.slim, slimM, Nm.Num.zero]; exact ⟨by simp, by simp, (slimL_iff N l).2 h, trivial⟩
 have hO : ∀ m : List Mem, (∀ p ∈ m, p.1.length ≤ N ∧ Vl.slim N p.2) → Vl.slim N (mkO m) := fun m h => by
  simp only [Vl.slim, slimL, Nm.Num.zero]; exact ⟨by simp, by simp, trivial, (slimM_iff N m).2 h⟩
 induction f with
 | zero =>
  refine ⟨fun d t _ => ?_, fun d t _ => ?_, fun d t acc _ _ => ?_, fun d t _ => ?_, fun d t acc _ _ => ?_⟩
  ·unfold value; exact .bad _ _ _
  ·unfold arr; exact .bad _ _ _
  ·unfold elems; exact .bad _ _ _
  ·unfold obj; exact .bad _ _ _
  ·unfold mems; exact .bad _ _ _
 | succ f ih =>
  obtain ⟨iv, ia, ie, io, im⟩ := ih
  refine ⟨?_, ?_, ?_, ?_, ?_⟩
  ·intro d t hd
   unfold value
   have hs := skip_len t
   refine Slim.trail ?_
   cases hq : skip t with
   | nil => exact .bad _ _ _
   | cons c u =>
    rw [hq] at hs
    have hu : 4 * u.length ≤ N := by simp only [List.length_cons] at hs; omega
    simp only
    split
    ·exact io d u hu
    split
    ·exact ia d u hu
    ·exact single_slim N hN c u (by omega)
  ·intro d u hd
   unfold arr
   have hs := skip_len u
   split
   ·exact .bad _ _ _
   split
   ·refine .ok (hA [] (fun _ h => by cases h)) ?_
    rw [List.length_tail]; omega
   ·exact ie (d + 1) (skip u) [] (by omega) (fun _ h => by cases h)
  ·intro d t acc hd hacc
   unfold elems
   have hv := iv d t hd
   cases h : value f d t with
   | bad k l => exact .bad _ _ _
   | ok v u =>
    obtain ⟨hg, hsz⟩ := hv _ _ h
    have hacc' : ∀ x ∈ acc ++ [v], Vl.slim N x := by
     intro x hx
     rcases List.mem_append.1 hx with hx | hx
     ·exact hacc x hx
     ·rw [List.mem_singleton.1 hx]; exact hg
    cases u with
    | nil => exact .bad _ _ _
    | cons c u =>
     simp only [List.length_cons] at hsz
     simp only
     split
     ·exact ie d u _ (by omega) hacc'
     split
     ·exact .ok (hA _ hacc') (by omega)
     ·exact .bad _ _ _
  ·intro d u hd
   unfold obj
   have hs := skip_len u
   split
   ·exact .bad _ _ _
   split
   ·refine .ok (hO [] (fun _ h => by cases h)) ?_
    rw [List.length_tail]; omega
   ·exact im (d + 1) (skip u) [] (by omega) (fun _ h => by cases h)
  ·intro d t acc hd hacc
   unfold mems
   have hs := skip_len t
   cases hq : qtext (skip t) with
   | bad k l => exact .bad _ _ _
   | ok key t2 =>
    have hq1 := qtext_slim hq
    have hq2 := (qtext_ok hq).1
    have hs2 := skip_len t2
    simp only
    split
    ·exact .bad _ _ _
    ·cases h3 : skip t2 with
     | nil => exact .bad _ _ _
     | cons c t4 =>
      rw [h3] at hs2
      simp only [List.length_cons] at hs2
      simp only
      split
      ·have hv := iv d t4 (by omega)
       cases h : value f d t4 with
       | bad k l => exact .bad _ _ _
       | ok v u =>
        obtain ⟨hg, hsz⟩ := hv _ _ h
        have hacc' : ∀ p ∈ ins acc key v, p.1.length ≤ N ∧ Vl.slim N p.2 := by
         intro x hx
         rcases mem_ins hx with hx | rfl
         ·exact hacc x hx
         ·exact ⟨by show key.length ≤ N; omega, hg⟩
        cases u with
        | nil => exact .bad _ _ _
        | cons c u =>
         simp only [List.length_cons] at hsz
         simp only
         split
         ·exact im d u _ (by omega) hacc'
         split
         ·exact .ok (hO _ hacc') (by omega)
         ·exact .bad _ _ _
      ·exact .bad _ _ _

theorem parse_slim {s : List UInt8} {v : Vl} {u : List UInt8} (h : parse s = .ok v u) : v.slim 80000 := by
 unfold parse at h
 split at h
 ·cases h
 ·have := (slim_all 80000 (by omega) (3 * s.length + 1)).1 0 s (by omega)
  cases hv : value (3 * s.length + 1) 0 s with
  | bad k l => rw [hv] at h; cases h
  | ok v' u' =>
   rw [hv] at h
   have h2 := (this _ _ hv).1
   cases u' with
   | nil => injection h with h1; rw [← h1]; exact h2
   | cons c u => cases h

end Go.Proofs.YtolkfgikomminaaGreatDoor.Ps


