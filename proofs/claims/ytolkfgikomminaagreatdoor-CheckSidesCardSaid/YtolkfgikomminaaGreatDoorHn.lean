/- Hn: Hn Ho Hp Hq Hr Hs, in one text. -/
import Derived.Test.YtolkfgikomminaaGreatDoorHa
import Derived.Test.YtolkfgikomminaaGreatDoorMe
import Derived.Deep.Cut
import Derived.Sort.Grow
import Derived.BigQuiet
import Derived.Deep.RegionHeld3
import Derived.Test.YtolkfgikomminaaGreatDoorLa
import Derived.Test.YtolkfgikomminaaGreatDoorMq
import Derived.Test.YtolkfgikomminaaGreatDoorShelf
import Derived.Test.YtolkfgikomminaaGreatDoorShelfw
import Derived.Shelf.SlSortCmp.NoneTotal
import Derived.OwnWalk
import Derived.WalkSpells
import Derived.Lib.SliceRun
import Derived.Test.YtolkfgikomminaaGreatDoorHb
import Derived.Test.YtolkfgikomminaaGreatDoorMg
import Derived.Test.YtolkfgikomminaaGreatDoorMk
import Derived.Test.YtolkfgikomminaaGreatDoorWg
import Derived.Lib.RuneCount
import Derived.Test.YtolkfgikomminaaGreatDoorJd
import Derived.Test.YtolkfgikomminaaGreatDoorCf
import Derived.Test.YtolkfgikomminaaGreatDoorHj
namespace Go.Proofs.YtolkfgikomminaaGreatDoor.Ow
open Js

def rankB (b : Bool) : Int := if b then 1 else 0
mutual
def ord : Vl → Vl → Int
 | .mk k b n s l m, .mk k' b' n' s' l' m' =>
  if k ≠ k' then k - k' else if k = 1 then rankB b - rankB b' else if k = 2 then Nm.cmp n n' else if k = 3 then Lib.compareBytes s s' else if k = 4 then ordL l l' else if k = 5 then ordM m m' else 0
def ordL : List Vl → List Vl → Int
 | [], [] => 0
 | [], _ :: _ => -1
 | _ :: _, [] => 1
 | x :: l, y :: r => if ord x y ≠ 0 then ord x y else ordL l r
def ordM : List Js.Mem → List Js.Mem → Int
 | [], [] => 0
 | [], _ :: _ => -1
 | _ :: _, [] => 1
 | x :: l, y :: r => if ordP x y ≠ 0 then ordP x y else ordM l r
def ordP : Js.Mem → Js.Mem → Int
 | (k, v), (k', v') => if Lib.compareBytes k k' ≠ 0 then Lib.compareBytes k k' else ord v v'
end
def lex {α : Type} (c : α → α → Int) : List α → List α → Int
 | [], [] => 0
 | [], _ :: _ => -1
 | _ :: _, [] => 1
 | x :: l, y :: r => if c x y ≠ 0 then c x y else lex c l r
theorem ordL_lex : ∀ l l' : List Vl, ordL l l' = lex ord l l'
 | [], [] => by simp [ordL, lex]
 | [], _ :: _ => by simp [ordL, lex]
 | _ :: _, [] => by simp [ordL, lex]
 | x :: l, y :: r => by simp only [ordL, lex]; rw [ordL_lex l r]
theorem ordM_lex : ∀ l l' : List Js.Mem, ordM l l' = lex ordP l l'
 | [], [] => by simp [ordM, lex]
 | [], _ :: _ => by simp [ordM, lex]
 | _ :: _, [] => by simp [ordM, lex]
 | x :: l, y :: r => by simp only [ordM, lex]; rw [ordM_lex l r]
section
variable {α : Type} {c : α → α → Int}
theorem lex_flip : ∀ {l l' : List α}, (∀ x ∈ l, ∀ y ∈ l', c x y = - c y x) → lex c l l' = - lex c l' l
 | [], [], _ => rfl
 | [], _ :: _, _ => rfl
 | _ :: _, [], _ => rfl
 | x :: l, y :: r, h => by
  have h1 := h x (by simp) y (by simp)
  have h2 := lex_flip (l := l) (l' := r) (fun a ha b hb => h a (by simp [ha]) b (by simp [hb]))
  simp only [lex]
  by_cases e : c x y = 0
  ·have e' : c y x = 0 := by omega
   rw [if_neg (by simp [e]), if_neg (by simp [e']), h2]
  ·rw [if_pos e, if_pos (by omega), h1]
theorem lex_zero : ∀ {l l' : List α}, (∀ x ∈ l, ∀ y ∈ l', c x y = 0 ↔ x = y) → (lex c l l' = 0 ↔ l = l')
 | [], [], _ => by simp [lex]
 | [], _ :: _, _ => by simp [lex]
 | _ :: _, [], _ => by simp [lex]
 | x :: l, y :: r, h => by
  have h1 := h x (by simp) y (by simp)
  have h2 := lex_zero (l := l) (l' := r) (fun a ha b hb => h a (by simp [ha]) b (by simp [hb]))
  simp only [lex]
  by_cases e : c x y = 0
  ·rw [if_neg (by simp [e]), h2, h1.1 e]; simp
  ·rw [if_pos e]
   refine ⟨fun q => absurd q e, fun q => absurd (h1.2 (List.cons.inj q).1) e⟩
theorem lex_next {S : α → Prop} (hf : ∀ x y, S x → S y → c x y = - c y x) (hz : ∀ x y, S x → S y → (c x y = 0 ↔ x = y)) : ∀ {l l' l'' : List α}, (∀ x ∈ l, S x) → (∀ x ∈ l', S x) → (∀ x ∈ l'', S x) →
  (∀ x ∈ l, ∀ y z, S y → S z → c x y ≤ 0 → c y z ≤ 0 → c x z ≤ 0) → lex c l l' ≤ 0 → lex c l' l'' ≤ 0 → lex c l l'' ≤ 0
 | [], [], _, _, _, _, _, _, h => h
 | [], _ :: _, [], _, _, _, _, _, _ => by simp [lex]
 | [], _ :: _, _ :: _, _, _, _, _, _, _ => by simp [lex]
 | _ :: _, [], _, _, _, _, _, h, _ => by simp [lex] at h
 | _ :: _, _ :: _, [], _, _, _, _, _, h => by simp [lex] at h
 | x :: l, y :: r, z :: t, s1, s2, s3, hn, h1, h2 => by
  have sx := s1 x (by simp)
  have sy := s2 y (by simp)
  have sz := s3 z (by simp)
  have ih := lex_next hf hz (l := l) (l' := r) (l'' := t) (fun a h => s1 a (by simp [h])) (fun a h => s2 a (by simp [h])) (fun a h => s3 a (by simp [h])) (fun a h => hn a (by simp [h]))
  have n1 := hn x (by simp) y z sy sz
  simp only [lex] at h1 h2 ⊢
  have fxy := hf x y sx sy
  have fyz := hf y z sy sz
  have fxz := hf x z sx sz
  have zxy := hz x y sx sy
  have zyz := hz y z sy sz
  have zxz := hz x z sx sz
  by_cases e1 : c x y = 0
  ·rw [if_neg (by simp [e1])] at h1
   obtain rfl := zxy.1 e1
   by_cases e2 : c x z = 0
   ·rw [if_neg (by simp [e2])] at h2 ⊢
    exact ih h1 h2
   ·rw [if_pos e2] at h2 ⊢
    exact h2
  ·rw [if_pos e1] at h1
   by_cases e2 : c y z = 0
   ·obtain rfl := zyz.1 e2
    rw [if_pos e1]
    exact h1
   ·rw [if_pos e2] at h2
    have n2 := n1 h1 h2
    have e3 : c x z ≠ 0 := fun e => by
     obtain rfl := zxz.1 e
     omega
    rw [if_pos e3]
    exact n2
end
theorem bytes_iff (a b : List UInt8) : Lib.compareBytes a b = 0 ↔ a = b := ⟨Nm.bytes_zero a b, fun h => by rw [h, Nm.bytes_self]⟩
theorem ord_mk (k : Int) (b n s l m k' b' n' s' l' m') : ord (.mk k b n s l m) (.mk k' b' n' s' l' m') = if k ≠ k' then k - k' else if k = 1 then rankB b - rankB b' else if k = 2 then Nm.cmp n n' else if k = 3 then Lib.compareBytes s s' else if k = 4 then lex ord l l' else if k = 5 then lex ordP m m' else 0 := by
 simp only [ord, ordL_lex, ordM_lex]
theorem ordP_mk (k v k' v') : ordP (k, v) (k', v') = if Lib.compareBytes k k' ≠ 0 then Lib.compareBytes k k' else ord v v' := by simp only [ordP]
theorem ord_flip (a : Vl) : ∀ b : Vl, a.may = true → b.may = true → ord a b = - ord b a := by
 induction a using Vl.ind with
 | h k b n s l m hl hm =>
  rintro ⟨k', b', n', s', l', m'⟩ ha hb
  obtain ⟨o0, o1, o2, o3, o4, o5, o6, o7, o8, o9, o10, o11⟩ := may_own ha
  obtain ⟨r0, r1, r2, r3, r4, r5, r6, r7, r8, r9, r10, r11⟩ := may_own hb
  rw [ord_mk, ord_mk]
  by_cases hk : k = k'
  ·subst hk
   simp only [ne_eq, not_true_eq_false, if_false]
   by_cases h1 : k = 1
   ·rw [if_pos h1, if_pos h1]; omega
   rw [if_neg h1, if_neg h1]
   by_cases h2 : k = 2
   ·rw [if_pos h2, if_pos h2]; exact Nm.cmp_flip _ _ (mayNum_May o7) (mayNum_May r7)
   rw [if_neg h2, if_neg h2]
   by_cases h3 : k = 3
   ·rw [if_pos h3, if_pos h3]; exact Nm.bytes_flip _ _
   rw [if_neg h3, if_neg h3]
   by_cases h4 : k = 4
   ·rw [if_pos h4, if_pos h4]
    exact lex_flip fun x hx y hy => hl x hx y ((mayL_iff l).1 o9 x hx) ((mayL_iff l').1 r9 y hy)
   rw [if_neg h4, if_neg h4]
   by_cases h5 : k = 5
   ·rw [if_pos h5, if_pos h5]
    refine lex_flip ?_
    rintro ⟨x, v⟩ hx ⟨y, u⟩ hy
    have h6 := hm _ hx u ((mayM_iff m).1 o10 _ hx).2 ((mayM_iff m').1 r10 _ hy).2
    have h7 := Nm.bytes_flip x y
    simp only at h6
    rw [ordP_mk, ordP_mk]
    by_cases e : Lib.compareBytes x y = 0
    ·rw [if_neg (by omega), if_neg (by omega)]; exact h6
    ·rw [if_pos e, if_pos (by omega)]; exact h7
   rw [if_neg h5, if_neg h5]; rfl
  ·rw [if_pos hk, if_pos (fun e => hk e.symm)]; omega
theorem rank_zero (b b' : Bool) : rankB b - rankB b' = 0 ↔ b = b' := by cases b <;> cases b' <;> decide
theorem ord_zero (a : Vl) : ∀ b : Vl, a.may = true → b.may = true → (ord a b = 0 ↔ a = b) := by
 induction a using Vl.ind with
 | h k b n s l m hl hm =>
  rintro ⟨k', b', n', s', l', m'⟩ ha hb
  obtain ⟨o0, o1, o2, o3, o4, o5, o6, o7, o8, o9, o10, o11⟩ := may_own ha
  obtain ⟨r0, r1, r2, r3, r4, r5, r6, r7, r8, r9, r10, r11⟩ := may_own hb
  rw [ord_mk, Vl.mk.injEq]
  by_cases hk : k = k'
  ·subst hk
   simp only [ne_eq, not_true_eq_false, if_false]
   by_cases h1 : k = 1
   ·subst h1
    rw [if_pos rfl, rank_zero, o3 (by decide), o4 (by decide), o5 (by decide), o6 (by decide), r3 (by decide), r4 (by decide), r5 (by decide), r6 (by decide)]
    simp
   rw [if_neg h1, o2 h1, r2 h1]
   by_cases h2 : k = 2
   ·subst h2
    rw [if_pos rfl, Nm.cmp_same _ _ (mayNum_May o7) (mayNum_May r7), o4 (by decide), o5 (by decide), o6 (by decide), r4 (by decide), r5 (by decide), r6 (by decide)]
    simp
   rw [if_neg h2, o3 h2, r3 h2]
   by_cases h3 : k = 3
   ·subst h3
    rw [if_pos rfl, bytes_iff, o5 (by decide), o6 (by decide), r5 (by decide), r6 (by decide)]
    simp
   rw [if_neg h3, o4 h3, r4 h3]
   by_cases h4 : k = 4
   ·subst h4
    rw [if_pos rfl, lex_zero fun x hx y hy => hl x hx y ((mayL_iff l).1 o9 x hx) ((mayL_iff l').1 r9 y hy), o6 (by decide), r6 (by decide)]
    simp
   rw [if_neg h4, o5 h4, r5 h4]
   by_cases h5 : k = 5
   ·subst h5
    rw [if_pos rfl, lex_zero (by
     rintro ⟨x, v⟩ hx ⟨y, u⟩ hy
     have h6 := hm _ hx u ((mayM_iff m).1 o10 _ hx).2 ((mayM_iff m').1 r10 _ hy).2
     have h7 := bytes_iff x y
     simp only at h6
     rw [ordP_mk, Prod.mk.injEq]
     by_cases e : Lib.compareBytes x y = 0
     ·rw [if_neg (by omega), h6]; simp [h7.1 e]
     ·rw [if_pos e]; exact ⟨fun q => absurd q e, fun q => absurd (h7.2 q.1) e⟩)]
    simp
   rw [if_neg h5, o6 h5, r6 h5]; simp
  ·rw [if_pos hk]
   exact ⟨fun h => by omega, fun h => absurd h.1 hk⟩
theorem ord_next (a : Vl) : ∀ b c : Vl, a.may = true → b.may = true → c.may = true → ord a b ≤ 0 → ord b c ≤ 0 → ord a c ≤ 0 := by
 induction a using Vl.ind with
 | h k b n s l m hl hm =>
  rintro ⟨k', b', n', s', l', m'⟩ ⟨k'', b'', n'', s'', l'', m''⟩ ha hb hc
  obtain ⟨o0, o1, o2, o3, o4, o5, o6, o7, o8, o9, o10, o11⟩ := may_own ha
  obtain ⟨r0, r1, r2, r3, r4, r5, r6, r7, r8, r9, r10, r11⟩ := may_own hb
  obtain ⟨t0, t1, t2, t3, t4, t5, t6, t7, t8, t9, t10, t11⟩ := may_own hc
  rw [ord_mk, ord_mk, ord_mk]
  by_cases hk : k = k'
  ·subst hk
   simp only [ne_eq, not_true_eq_false, if_false]
   by_cases hk2 : k = k''
   ·subst hk2
    simp only [not_true_eq_false, if_false]
    by_cases h1 : k = 1
    ·simp only [h1, if_true]; omega
    simp only [h1, if_false]
    by_cases h2 : k = 2
    ·simp only [h2, if_true]; exact Nm.cmp_next _ _ _ (mayNum_May o7) (mayNum_May r7)
    simp only [h2, if_false]
    by_cases h3 : k = 3
    ·simp only [h3, if_true]; exact Nm.bytes_next _ _ _
    simp only [h3, if_false]
    by_cases h4 : k = 4
    ·simp only [h4, if_true]
     exact lex_next (S := fun v => v.may = true) (fun x y => ord_flip x y) (fun x y => ord_zero x y) ((mayL_iff l).1 o9) ((mayL_iff l').1 r9) ((mayL_iff l'').1 t9) fun x hx y z sy sz => hl x hx y z ((mayL_iff l).1 o9 x hx) sy sz
    simp only [h4, if_false]
    by_cases h5 : k = 5
    ·simp only [h5, if_true]
     refine lex_next (S := fun p : Js.Mem => p.2.may = true) ?_ ?_ (fun p hp => ((mayM_iff m).1 o10 p hp).2) (fun p hp => ((mayM_iff m').1 r10 p hp).2) (fun p hp => ((mayM_iff m'').1 t10 p hp).2) ?_
     ·rintro ⟨x, v⟩ ⟨y, u⟩ sx sy
      have h6 := ord_flip v u sx sy
      have h7 := Nm.bytes_flip x y
      rw [ordP_mk, ordP_mk]
      by_cases e : Lib.compareBytes x y = 0
      ·rw [if_neg (by omega), if_neg (by omega)]; exact h6
      ·rw [if_pos e, if_pos (by omega)]; exact h7
     ·rintro ⟨x, v⟩ ⟨y, u⟩ sx sy
      have h6 := ord_zero v u sx sy
      have h7 := bytes_iff x y
      rw [ordP_mk, Prod.mk.injEq]
      by_cases e : Lib.compareBytes x y = 0
      ·rw [if_neg (by omega), h6]; simp [h7.1 e]
      ·rw [if_pos e]; exact ⟨fun q => absurd q e, fun q => absurd (h7.2 q.1) e⟩
     ·rintro ⟨x, v⟩ hx ⟨y, u⟩ ⟨z, q⟩ sy sz
      have h6 := hm _ hx u q ((mayM_iff m).1 o10 _ hx).2 sy sz
      simp only at h6
      rw [ordP_mk, ordP_mk, ordP_mk]
      have f1 := Nm.bytes_flip x y
      have f2 := Nm.bytes_flip y z
      have f3 := Nm.bytes_flip x z
      have nx := Nm.bytes_next x y z
      have nx' := Nm.bytes_next z y x
      by_cases e1 : Lib.compareBytes x y = 0
      ·obtain rfl := (bytes_iff x y).1 e1
       rw [if_neg (by simp [e1])]
       by_cases e2 : Lib.compareBytes x z = 0
       ·simp only [e2, ne_eq, not_true_eq_false, if_false]; exact h6
       ·simp only [e2, ne_eq, not_false_eq_true, if_true]; exact fun _ h => h
      ·rw [if_pos e1]
       by_cases e2 : Lib.compareBytes y z = 0
       ·obtain rfl := (bytes_iff y z).1 e2
        rw [if_pos e1]
        exact fun h _ => h
       ·rw [if_pos e2]
        intro g1 g2
        have g3 := nx g1 g2
        have e3 : Lib.compareBytes x z ≠ 0 := fun e => by
         obtain rfl := (bytes_iff x z).1 e
         omega
        rw [if_pos e3]
        exact g3
    simp only [h5, if_false]
    exact fun h _ => h
   ·simp only [hk2, not_false_eq_true, if_true]
    exact fun _ h => h
  ·rw [if_pos hk]
   by_cases hk2 : k' = k''
   ·subst hk2
    rw [if_pos hk]
    exact fun h _ => h
   ·rw [if_pos hk2]
    intro g1 g2
    rw [if_pos (by omega)]
    omega
theorem among_iff (l : List Vl) (v : Vl) : among l v = true ↔ v ∈ l := by
 unfold among
 rw [List.any_eq_true]
 constructor
 ·rintro ⟨u, hu, h⟩
  rw [same_iff] at h
  exact h ▸ hu
 ·exact fun h => ⟨v, h, same_refl v⟩
theorem dup_false : ∀ (l seen : List Vl), dup seen l = false ↔ l.Nodup ∧ ∀ x ∈ l, x ∉ seen
 | [], seen => by simp [dup]
 | x :: r, seen => by
  rw [dup, Bool.or_eq_false_iff, dup_false r, ← Bool.not_eq_true, among_iff, List.nodup_cons]
  constructor
  ·rintro ⟨h1, h2, h3⟩
   refine ⟨⟨fun h => h3 x h (by simp), h2⟩, fun y hy => ?_⟩
   rcases List.mem_cons.1 hy with rfl | hy
   ·exact h1
   ·exact fun h => h3 y hy (by simp [h])
  ·rintro ⟨⟨h1, h2⟩, h3⟩
   refine ⟨h3 x (by simp), h2, fun y hy h => ?_⟩
   rcases List.mem_append.1 h with h | h
   ·exact h3 y (by simp [hy]) h
   ·rw [List.mem_singleton] at h
    exact h1 (h ▸ hy)
theorem dup_nodup (l : List Vl) : dup [] l = false ↔ l.Nodup := by rw [dup_false]; simp
def Ordered (d : List Vl) : Prop := ∀ (i j : Nat) (h : j < d.length) (hij : i < j), ¬ ord d[j] (d[i]'(by omega)) < 0
theorem dup_perm {d l : List Vl} (h : d.Perm l) : dup [] d = dup [] l := by
 rw [Bool.eq_iff_iff, ← Bool.not_eq_false, ← Bool.not_eq_false, dup_nodup, dup_nodup, h.nodup_iff]
theorem dup_found {d : List Vl} {i : Nat} (h : i + 1 < d.length) (hs : (d[i]'(by omega)).same d[i + 1] = true) : dup [] d = true := by
 rw [← Bool.not_eq_false, dup_nodup]
 intro hn
 rw [same_iff] at hs
 unfold List.Nodup at hn
 rw [List.pairwise_iff_getElem] at hn
 exact hn i (i + 1) (by omega) h (by omega) hs
theorem dup_none {d : List Vl} (hd : ∀ v ∈ d, v.may = true) (ho : Ordered d) (hs : ∀ (i : Nat) (h : i + 1 < d.length), (d[i]'(by omega)).same d[i + 1] = false) : dup [] d = false := by
 rw [dup_nodup]
 unfold List.Nodup
 rw [List.pairwise_iff_getElem]
 intro i j hi hj hij e
 have m1 := hd _ (List.getElem_mem hi)
 have m2 := hd (d[i + 1]'(by omega)) (List.getElem_mem _)
 have hne := hs i (by omega)
 have h1 := ho i (i + 1) (by omega) (by omega)
 have f1 := ord_flip _ _ m1 m2
 have h0 : ord d[i] (d[i + 1]'(by omega)) = 0 := by
  by_cases hj1 : j = i + 1
  ·subst hj1
   exact (ord_zero _ _ m1 m2).2 e
  ·have h2 := ho (i + 1) j hj (by omega)
   rw [← e] at h2
   omega
 have h3 := (ord_zero _ _ m1 m2).1 h0
 rw [← Bool.not_eq_true, same_iff] at hne
 exact hne h3

end Go.Proofs.YtolkfgikomminaaGreatDoor.Ow

namespace Go.Proofs.YtolkfgikomminaaGreatDoor
open Go.RowKit Js

structure Grew (w w' : World) : Prop where
 below : Below w.heap.size w w'
 drawn : w.drawn ≤ w'.drawn
section
variable {w w1 w2 : World}
theorem Grew.refl (w : World) : Grew w w := ⟨Below.refl _ _, Nat.le_refl _⟩
theorem Grew.trans (h : Grew w w1) (k : Grew w1 w2) : Grew w w2 := ⟨h.below.trans (k.below.mono h.below.size), Nat.le_trans h.drawn k.drawn⟩
theorem Grew.alloc (h : Grew w w1) (o : Obj) : Grew w (w1.alloc o) := ⟨h.below.alloc h.below.size o, h.drawn⟩
theorem Grew.drew (h : Grew w w1) : Grew w w1.drew := ⟨h.below.drew, Nat.le_succ_of_le h.drawn⟩
theorem Grew.grow (h : Grew w w1) : ∃ q os, w1 = Go.Sort.grow (w.drewN q) os := by
 refine ⟨w1.drawn - w.drawn, w1.heap.extract w.heap.size w1.heap.size, ?_⟩
 obtain ⟨hb, hd⟩ := h
 obtain ⟨heap', tape', drawn', os', output'⟩ := w1
 have e1 : os' = w.os := hb.os
 have e2 : tape' = w.tape := hb.tape
 have e3 : output' = w.output := hb.output
 have hs : w.heap.size ≤ heap'.size := hb.size
 have hk : ∀ k, k < w.heap.size → heap'[k]? = w.heap[k]? := hb.block
 have hd' : w.drawn ≤ drawn' := hd
 subst e1 e2 e3
 have eh : heap' = w.heap ++ heap'.extract w.heap.size heap'.size := by
  apply Array.ext_getElem?
  intro k
  by_cases hl : k < w.heap.size
  ·rw [Array.getElem?_append_left hl]; exact hk k hl
  ·rw [Array.getElem?_append_right (by omega), Array.getElem?_extract]
   by_cases hl2 : k < heap'.size
   ·rw [if_pos (by omega)]; congr 1; omega
   ·rw [if_neg (by omega), Array.getElem?_eq_none (by omega)]
 simp only [Go.Sort.grow, World.drewN]
 have ed : drawn' = w.drawn + (drawn' - w.drawn) := by omega
 congr 1
end

set_option maxHeartbeats 400000 in
theorem sign14 (neg : Bool) (ds : List UInt8) (x : Int) (w : World) :
  Calls Tryz.prog 53 #[.agg #[.bool neg, .string ⟨ds.toArray⟩, .int .i64 x]] w fun e w' => e = .returned (.int .i64 (Nm.sign ⟨neg, ds, x⟩)) ∧ Grew w w' := by
 cases ds with
 | nil =>
  go_enter Tryz.func53, Tryz.ntmps53
  go_wp2
  go_ret
  exact ⟨rfl, (Grew.refl _).alloc _⟩
 | cons c r =>
  cases neg
  all_goals
   go_enter Tryz.func53, Tryz.ntmps53
   go_wp2
   go_ret
   exact ⟨rfl, (Grew.refl _).alloc _⟩

set_option maxHeartbeats 400000 in
theorem cmpSize14 (na : Bool) (da : List UInt8) (xa : Int) (nb : Bool) (db : List UInt8) (xb : Int) (w : World) (ha : Nm.Fair ⟨na, da, xa⟩) (hb : Nm.Fair ⟨nb, db, xb⟩) :
  Calls Tryz.prog 54 #[.agg #[.bool na, .string ⟨da.toArray⟩, .int .i64 xa], .agg #[.bool nb, .string ⟨db.toArray⟩, .int .i64 xb]] w fun e w' => e = .returned (.int .i64 (Nm.cmpSize ⟨na, da, xa⟩ ⟨nb, db, xb⟩)) ∧ Grew w w' := by
 obtain ⟨ha1, ha2, ha3⟩ := ha
 obtain ⟨hb1, hb2, hb3⟩ := hb
 simp only at ha1 ha2 ha3 hb1 hb2 hb3
 go_enter Tryz.func54, Tryz.ntmps54
 go_wp2_with fail
 refine (Tryz.cmp_Compare_int _ _ _).mono ?_
 rintro e w' ⟨rfl, rfl⟩
 generalize hc : Lib.compareInt (↑da.length + xa) (↑db.length + xb) = c
 have HC := Lib.hid hc
 clear hc
 by_cases h0 : c = 0
 ·subst h0
  go_wp2_with fail
  refine (Tryz.strings_Compare _ _ _).mono ?_
  rintro e w' ⟨rfl, rfl⟩
  go_wp2
  go_ret
  refine ⟨?_, ((Grew.refl _).alloc _).alloc _⟩
  simp [Nm.cmpSize, HC.out]
 ·have h1 : (c == 0) = false := by simpa using h0
  have h2 : (c != 0) = true := by simpa using h0
  have H0 := Lib.hid h0
  clear h0
  go_wp2
  go_ret
  refine ⟨?_, ((Grew.refl _).alloc _).alloc _⟩
  simp [Nm.cmpSize, HC.out, H0.out]

def TwoAt14 (w : World) (na : Bool) (da : List UInt8) (xa : Int) (nb : Bool) (db : List UInt8) (xb : Int) (w' : World) : Prop :=
 (w'.cell? ⟨w.heap.size, 0, none⟩ = some (.bool na) ∧ w'.cell? ⟨w.heap.size, 1, none⟩ = some (.string ⟨da.toArray⟩) ∧ w'.cell? ⟨w.heap.size, 2, none⟩ = some (.int .i64 xa)) ∧
  (w'.cell? ⟨w.heap.size + 1, 0, none⟩ = some (.bool nb) ∧ w'.cell? ⟨w.heap.size + 1, 1, none⟩ = some (.string ⟨db.toArray⟩) ∧ w'.cell? ⟨w.heap.size + 1, 2, none⟩ = some (.int .i64 xb)) ∧ Grew w w' ∧ w.heap.size + 2 ≤ w'.heap.size
theorem TwoAt14.keep {w : World} {na : Bool} {da : List UInt8} {xa : Int} {nb : Bool} {db : List UInt8} {xb : Int} {W w1 : World} (h : TwoAt14 w na da xa nb db xb W) (hb : Grew W w1) : TwoAt14 w na da xa nb db xb w1 := by
 obtain ⟨h1, h2, h3, h4⟩ := h
 exact ⟨NumAt.keep h1 hb.below (by omega), NumAt.keep h2 hb.below (by omega), h3.trans hb, by have := hb.below.size; omega⟩
theorem TwoAt14.start (w : World) (na : Bool) (da : List UInt8) (xa : Int) (nb : Bool) (db : List UInt8) (xb : Int) (t : TypeId) :
  TwoAt14 w na da xa nb db xb ((w.alloc (.cells #[.bool na, .string ⟨da.toArray⟩, .int .i64 xa] t)).alloc (.cells #[.bool nb, .string ⟨db.toArray⟩, .int .i64 xb] t)).drew := by
 refine ⟨⟨?_, ?_, ?_⟩, ⟨?_, ?_, ?_⟩, (((Grew.refl _).alloc _).alloc _).drew, by simp⟩ <;> simp

set_option maxHeartbeats 400000 in
theorem cmp14 (na : Bool) (da : List UInt8) (xa : Int) (nb : Bool) (db : List UInt8) (xb : Int) (w : World) (ha : Nm.Fair ⟨na, da, xa⟩) (hb : Nm.Fair ⟨nb, db, xb⟩) :
  Calls Tryz.prog 24 #[.agg #[.bool na, .string ⟨da.toArray⟩, .int .i64 xa], .agg #[.bool nb, .string ⟨db.toArray⟩, .int .i64 xb]] w fun e w' => e = .returned (.int .i64 (Nm.cmp ⟨na, da, xa⟩ ⟨nb, db, xb⟩)) ∧ Grew w w' := by
 have HA := Lib.hid ha
 have HB := Lib.hid hb
 clear ha hb
 go_enter Tryz.func24, Tryz.ntmps24
 go_wp2_with fail
 go_region_held3 (fun w' => (w'.cell? ⟨w.heap.size, 0, none⟩ = some (.bool na) ∧ w'.cell? ⟨w.heap.size, 1, none⟩ = some (.string ⟨da.toArray⟩) ∧ w'.cell? ⟨w.heap.size, 2, none⟩ = some (.int .i64 xa)) ∧
   (w'.cell? ⟨w.heap.size + 1, 0, none⟩ = some (.bool nb) ∧ w'.cell? ⟨w.heap.size + 1, 1, none⟩ = some (.string ⟨db.toArray⟩) ∧ w'.cell? ⟨w.heap.size + 1, 2, none⟩ = some (.int .i64 xb)) ∧ Grew w w' ∧ w.heap.size + 2 ≤ w'.heap.size)
  (first | exact hs | exact TwoAt14.start w na da xa nb db xb _)
  (first | (go_at_call 53; refine (sign14 _ _ _ _).mono ?_; rintro e w' ⟨rfl, hb⟩; have hs := TwoAt14.keep (w := w) (na := na) (da := da) (xa := xa) (nb := nb) (db := db) (xb := xb) (by first | exact hs | exact TwoAt14.start w na da xa nb db xb _) hb; clear hb) | (go_at_call 52; refine (Tryz.cmp_Compare_int _ _ _).mono ?_; rintro e w' ⟨rfl, rfl⟩))
 obtain ⟨⟨a1, a2, a3⟩, ⟨b1, b2, b3⟩, hbl, hsz⟩ := hs
 generalize hc : Lib.compareInt (Nm.sign ⟨na, da, xa⟩) (Nm.sign ⟨nb, db, xb⟩) = c
 have HC := Lib.hid hc
 have HBL := Lib.hid hbl
 clear hc hbl
 by_cases h0 : c = 0
 ·subst h0
  cases na
  ·go_wp2_with fail
   refine (cmpSize14 _ _ _ _ _ _ _ HA.out HB.out).mono ?_
   rintro e w2 ⟨rfl, hb2⟩
   go_wp2
   go_ret
   refine ⟨?_, HBL.out.trans hb2⟩
   simp [Nm.cmp, HC.out]
  ·go_wp2_with fail
   refine (cmpSize14 _ _ _ _ _ _ _ HB.out HA.out).mono ?_
   rintro e w2 ⟨rfl, hb2⟩
   go_wp2
   go_ret
   refine ⟨?_, HBL.out.trans hb2⟩
   simp [Nm.cmp, HC.out]
 ·have h1 : (c == 0) = false := by simpa using h0
  have h2 : (c != 0) = true := by simpa using h0
  have H0 := Lib.hid h0
  clear h0
  go_wp2
  go_ret
  refine ⟨?_, HBL.out⟩
  simp [Nm.cmp, HC.out, H0.out]

theorem rank_any (b : Bool) (w : World) : Calls Tryz.prog 83 #[.bool b] w fun e w' => e = .returned (.int .i64 (Ow.rankB b)) ∧ w' = w := by
 cases b
 all_goals
  go_enter Tryz.func83, Tryz.ntmps83
  go_wp2
  go_ret
  exact ⟨rfl, rfl⟩


def Comparing (w : World) (l l' : List Vl) (i : Value) (wr : World) : Prop :=
 ∃ j : Nat, j ≤ l.length ∧ j ≤ l'.length ∧ i = .int .i64 j ∧ Ow.ordL l l' = Ow.ordL (l.drop j) (l'.drop j) ∧ Grew w wr

set_option linter.unusedVariables false in
set_option maxRecDepth 100000 in
set_option maxHeartbeats 2000000 in
theorem compareL_any (l l' : List Vl) (A A' : Option Addr) (e e' : Nat) (w : World) (he : l.length ≤ e) (he' : l'.length ≤ e') (hm : e ≤ maxLen) (hm' : e' ≤ maxLen) (hs : SlL w.cell? A l) (hs' : SlL w.cell? A' l')
  (HC : ∀ v ∈ l, ∀ v' ∈ l', ∀ x x' w, v.In w.cell? x → v'.In w.cell? x' → Calls Tryz.prog 60 #[x, x'] w fun e w' => e = .returned (.int .i64 (Ow.ord v v')) ∧ Grew w w') :
  Calls Tryz.prog 84 #[.slice A l.length e, .slice A' l'.length e', .func (.func 60) #[] #[]] w fun e w' => e = .returned (.int .i64 (Ow.ordL l l')) ∧ Grew w w' := by
 unfold maxLen at hm hm'
 have HS := Lib.hid hs
 have HS' := Lib.hid hs'
 have HCC := Lib.hid HC
 clear hs hs' HC
 go_enter Tryz.func84, Tryz.ntmps84
 go_wp2_with fail
 go_loopw [13] (Comparing w l l') (fun i _ => l.length - (intOf i).toNat)
 case atStart => exact ⟨0, by omega, by omega, rfl, rfl, Grew.refl _⟩
 case round =>
  obtain ⟨j, hj, hj', rfl, hsm, hW⟩ := hrel
  have HSM := Lib.hid hsm
  have HW := Lib.hid hW
  clear hsm
  by_cases hlt : j < l.length
  ·obtain ⟨g, o, y, rfl, hy, hc⟩ := HS.out j _ (List.getElem?_eq_getElem hlt)
   obtain ⟨k1, b1, n1, g1, x1, s1, A1, l1, p1, B1, m1, d1, rfl⟩ := In.cells hy
   by_cases hlt' : j < l'.length
   ·obtain ⟨g', o', y', rfl, hy', hc'⟩ := HS'.out j _ (List.getElem?_eq_getElem hlt')
    obtain ⟨k2, b2, n2, g2, x2, s2, A2, l2, p2, B2, m2, d2, rfl⟩ := In.cells hy'
    have hle : Cl.le w.cell? wr.cell? := le_below hW.below
    obtain ⟨e0, e1, e2, e3, e4, e5, e6, e7⟩ := (hc.keep hle).eight
    obtain ⟨f0, f1, f2, f3, f4, f5, f6, f7⟩ := (hc'.keep hle).eight
    have hgl : g' < wr.heap.size := World.block_lt_of_cell? wr _ f0
    have hle2 := (hle.trans (le_alloc wr (.cells #[.int .i64 k1, .bool b1, .bool n1, .string ⟨g1.toArray⟩, .int .i64 x1, .string ⟨s1.toArray⟩, .slice A1 l1 p1, .slice B1 m1 d1] 31))).trans (le_alloc _ (.cells #[.int .i64 k2, .bool b2, .bool n2, .string ⟨g2.toArray⟩, .int .i64 x2, .string ⟨s2.toArray⟩, .slice A2 l2 p2, .slice B2 m2 d2] 31))
    have HY := Lib.hid (In.keep hle2 _ _ hy)
    have HY' := Lib.hid (In.keep hle2 _ _ hy')
    have HSTEP := Lib.hid (show Ow.ordL (l.drop j) (l'.drop j) = if Ow.ord l[j] l'[j] ≠ 0 then Ow.ord l[j] l'[j] else Ow.ordL (l.drop (j + 1)) (l'.drop (j + 1)) by
     rw [List.drop_eq_getElem_cons hlt, List.drop_eq_getElem_cons hlt']; simp only [Ow.ordL])
    have HCALL := Lib.hid (HCC.out l[j] (List.getElem_mem _) l'[j] (List.getElem_mem _))
    have HG := Lib.hid ((hW.alloc (.cells #[.int .i64 k1, .bool b1, .bool n1, .string ⟨g1.toArray⟩, .int .i64 x1, .string ⟨s1.toArray⟩, .slice A1 l1 p1, .slice B1 m1 d1] 31)).alloc (.cells #[.int .i64 k2, .bool b2, .bool n2, .string ⟨g2.toArray⟩, .int .i64 x2, .string ⟨s2.toArray⟩, .slice A2 l2 p2, .slice B2 m2 d2] 31))
    clear hc hc' hy hy' hle hle2 hW
    generalize Ow.ord l[j] l'[j] = q at HSTEP HCALL
    go_wp2_with fail
    refine (HCALL.out _ _ _ HY.out HY'.out).mono ?_
    rintro e' w2 ⟨rfl, hb2⟩
    have HG2 := Lib.hid (HG.out.trans hb2)
    clear hb2
    by_cases h0 : q = 0
    ·subst h0
     go_wp2_with fail
     go_roundw
     case rel => exact ⟨j + 1, by omega, by omega, by go_num, by rw [HSM.out, HSTEP.out]; rfl, HG2.out⟩
     case measure => simp [intOf]; omega
    ·have h1 : (q == 0) = false := by simpa using h0
     have h2 : (q != 0) = true := by simpa using h0
     have H0 := Lib.hid h0
     clear h0
     go_wp2_with fail
     go_ret
     exact ⟨by rw [HSM.out, HSTEP.out, if_pos H0.out]; rfl, HG2.out⟩
   ·have hge : l'.length ≤ j := by omega
    have hle : Cl.le w.cell? wr.cell? := le_below hW.below
    obtain ⟨e0, e1, e2, e3, e4, e5, e6, e7⟩ := (hc.keep hle).eight
    have HE := Lib.hid (show Ow.ordL (l.drop j) (l'.drop j) = 1 by
     rw [List.drop_eq_getElem_cons hlt, List.drop_eq_nil_of_le hge]; simp only [Ow.ordL])
    have HG := Lib.hid (hW.alloc (.cells #[.int .i64 k1, .bool b1, .bool n1, .string ⟨g1.toArray⟩, .int .i64 x1, .string ⟨s1.toArray⟩, .slice A1 l1 p1, .slice B1 m1 d1] 31))
    clear hc hy hle hW
    go_wp2_with fail
    go_ret
    exact ⟨by rw [HSM.out, HE.out]; rfl, HG.out⟩
  ·obtain rfl : j = l.length := by omega
   clear hW
   by_cases hlt' : l.length < l'.length
   ·have HE := Lib.hid (show Ow.ordL (l.drop l.length) (l'.drop l.length) = -1 by
     rw [List.drop_length, List.drop_eq_getElem_cons hlt']; simp only [Ow.ordL])
    go_wp2_with fail
    go_ret
    exact ⟨by rw [HSM.out, HE.out]; rfl, HW.out⟩
   ·have HE := Lib.hid (show Ow.ordL (l.drop l.length) (l'.drop l.length) = 0 by
     rw [List.drop_length, List.drop_eq_nil_of_le (by omega)]; simp only [Ow.ordL])
    go_wp2_with fail
    go_ret
    exact ⟨by rw [HSM.out, HE.out]; rfl, HW.out⟩

def ComparingM (w : World) (l l' : List Js.Mem) (i : Value) (wr : World) : Prop :=
 ∃ j : Nat, j ≤ l.length ∧ j ≤ l'.length ∧ i = .int .i64 j ∧ Ow.ordM l l' = Ow.ordM (l.drop j) (l'.drop j) ∧ Grew w wr

set_option linter.unusedVariables false in
set_option maxRecDepth 100000 in
set_option maxHeartbeats 2000000 in
theorem orderMembers_any (p p' : Js.Mem) (k1 : Int) (b1 n1 : Bool) (g1 : List UInt8) (x1 : Int) (s1 : List UInt8) (A1 : Option Addr) (l1 p1 : Nat) (B1 : Option Addr) (m1 d1 : Nat) (k2 : Int) (b2 n2 : Bool) (g2 : List UInt8) (x2 : Int) (s2 : List UInt8) (A2 : Option Addr) (l2 p2 : Nat) (B2 : Option Addr) (m2 d2 : Nat) (w : World)
  (hx : p.2.In w.cell? (vlV k1 b1 n1 g1 x1 s1 (.slice A1 l1 p1) (.slice B1 m1 d1))) (hx' : p'.2.In w.cell? (vlV k2 b2 n2 g2 x2 s2 (.slice A2 l2 p2) (.slice B2 m2 d2)))
  (HC : ∀ x x' w, p.2.In w.cell? x → p'.2.In w.cell? x' → Calls Tryz.prog 60 #[x, x'] w fun e w' => e = .returned (.int .i64 (Ow.ord p.2 p'.2)) ∧ Grew w w') :
  Calls Tryz.prog 86 #[.agg #[.string ⟨p.1.toArray⟩, .int .i64 k1, .bool b1, .bool n1, .string ⟨g1.toArray⟩, .int .i64 x1, .string ⟨s1.toArray⟩, .slice A1 l1 p1, .slice B1 m1 d1], .agg #[.string ⟨p'.1.toArray⟩, .int .i64 k2, .bool b2, .bool n2, .string ⟨g2.toArray⟩, .int .i64 x2, .string ⟨s2.toArray⟩, .slice A2 l2 p2, .slice B2 m2 d2]] w
   fun e w' => e = .returned (.int .i64 (Ow.ordP p p')) ∧ Grew w w' := by
 obtain ⟨key, v⟩ := p
 obtain ⟨key', v'⟩ := p'
 simp only at hx hx' HC
 have hle2 := (le_alloc w (.cells #[.string ⟨key.toArray⟩, .int .i64 k1, .bool b1, .bool n1, .string ⟨g1.toArray⟩, .int .i64 x1, .string ⟨s1.toArray⟩, .slice A1 l1 p1, .slice B1 m1 d1] 91)).trans (le_alloc _ (.cells #[.string ⟨key'.toArray⟩, .int .i64 k2, .bool b2, .bool n2, .string ⟨g2.toArray⟩, .int .i64 x2, .string ⟨s2.toArray⟩, .slice A2 l2 p2, .slice B2 m2 d2] 91))
 have HY := Lib.hid (In.keep hle2 _ _ hx)
 have HY' := Lib.hid (In.keep hle2 _ _ hx')
 have HCC := Lib.hid HC
 have HSC := Lib.hid (fun (W' : World) => Tryz.strings_Compare ⟨key.toArray⟩ ⟨key'.toArray⟩ W')
 have HP := Lib.hid (Ow.ordP_mk key v key' v')
 have HG := Lib.hid (((Grew.refl w).alloc (.cells #[.string ⟨key.toArray⟩, .int .i64 k1, .bool b1, .bool n1, .string ⟨g1.toArray⟩, .int .i64 x1, .string ⟨s1.toArray⟩, .slice A1 l1 p1, .slice B1 m1 d1] 91)).alloc (.cells #[.string ⟨key'.toArray⟩, .int .i64 k2, .bool b2, .bool n2, .string ⟨g2.toArray⟩, .int .i64 x2, .string ⟨s2.toArray⟩, .slice A2 l2 p2, .slice B2 m2 d2] 91))
 clear HC hx hx' hle2
 unfold ByteArray.data at HSC
 simp only at HSC
 obtain ⟨c, hc⟩ : ∃ c, Lib.compareBytes key key' = c := ⟨_, rfl⟩
 rw [hc] at HSC HP
 clear hc
 go_enter Tryz.func86, Tryz.ntmps86
 go_wp2_with fail
 refine (HSC.out _).mono ?_
 rintro e1 w1 ⟨rfl, rfl⟩
 by_cases h0 : c = 0
 ·subst h0
  go_wp2_with fail
  refine (HCC.out _ _ _ HY.out HY'.out).mono ?_
  rintro e' w2 ⟨rfl, hb2⟩
  have hg := HG.out.trans hb2
  go_wp2_with fail
  go_ret
  exact ⟨by rw [HP.out]; rfl, hg⟩
 ·have h1 : (c == 0) = false := by simpa using h0
  have h2 : (c != 0) = true := by simpa using h0
  have H0 := Lib.hid h0
  clear h0
  go_wp2_with fail
  go_ret
  exact ⟨by rw [HP.out, if_pos H0.out]; rfl, HG.out⟩

set_option linter.unusedVariables false in
set_option maxRecDepth 100000 in
set_option maxHeartbeats 2000000 in
theorem compareM_any (l l' : List Js.Mem) (A A' : Option Addr) (e e' : Nat) (w : World) (he : l.length ≤ e) (he' : l'.length ≤ e') (hm : e ≤ maxLen) (hm' : e' ≤ maxLen) (hs : SlM w.cell? A l) (hs' : SlM w.cell? A' l')
  (HC : ∀ v ∈ l, ∀ v' ∈ l', ∀ x x' w, v.2.In w.cell? x → v'.2.In w.cell? x' → Calls Tryz.prog 60 #[x, x'] w fun e w' => e = .returned (.int .i64 (Ow.ord v.2 v'.2)) ∧ Grew w w') :
  Calls Tryz.prog 85 #[.slice A l.length e, .slice A' l'.length e', .func (.func 86) #[] #[]] w fun e w' => e = .returned (.int .i64 (Ow.ordM l l')) ∧ Grew w w' := by
 unfold maxLen at hm hm'
 have HS := Lib.hid hs
 have HS' := Lib.hid hs'
 have HCC := Lib.hid HC
 clear hs hs' HC
 go_enter Tryz.func85, Tryz.ntmps85
 go_wp2_with fail
 go_loopw [13] (ComparingM w l l') (fun i _ => l.length - (intOf i).toNat)
 case atStart => exact ⟨0, by omega, by omega, rfl, rfl, Grew.refl _⟩
 case round =>
  obtain ⟨j, hj, hj', rfl, hsm, hW⟩ := hrel
  have HSM := Lib.hid hsm
  have HW := Lib.hid hW
  clear hsm
  by_cases hlt : j < l.length
  ·obtain ⟨g, o, y, rfl, hy, hk, hc⟩ := HS.out j _ (List.getElem?_eq_getElem hlt)
   obtain ⟨k1, b1, n1, g1, x1, s1, A1, l1, p1, B1, m1, d1, rfl⟩ := In.cells hy
   by_cases hlt' : j < l'.length
   ·obtain ⟨g', o', y', rfl, hy', hk', hc'⟩ := HS'.out j _ (List.getElem?_eq_getElem hlt')
    obtain ⟨k2, b2, n2, g2, x2, s2, A2, l2, p2, B2, m2, d2, rfl⟩ := In.cells hy'
    have hle : Cl.le w.cell? wr.cell? := le_below hW.below
    obtain ⟨e0, e1, e2, e3, e4, e5, e6, e7⟩ := (hc.keep hle).eight
    have ek := hle _ _ hk
    have fk := hle _ _ hk'
    obtain ⟨f0, f1, f2, f3, f4, f5, f6, f7⟩ := (hc'.keep hle).eight
    have hgl : g' < wr.heap.size := World.block_lt_of_cell? wr _ f0
    have hle2 := (hle.trans (le_alloc wr (.cells #[.string ⟨l[j].1.toArray⟩, .int .i64 k1, .bool b1, .bool n1, .string ⟨g1.toArray⟩, .int .i64 x1, .string ⟨s1.toArray⟩, .slice A1 l1 p1, .slice B1 m1 d1] 91))).trans (le_alloc _ (.cells #[.string ⟨l'[j].1.toArray⟩, .int .i64 k2, .bool b2, .bool n2, .string ⟨g2.toArray⟩, .int .i64 x2, .string ⟨s2.toArray⟩, .slice A2 l2 p2, .slice B2 m2 d2] 91))
    have HY := Lib.hid (In.keep hle2 _ _ hy)
    have HY' := Lib.hid (In.keep hle2 _ _ hy')
    have HSTEP := Lib.hid (show Ow.ordM (l.drop j) (l'.drop j) = if Ow.ordP l[j] l'[j] ≠ 0 then Ow.ordP l[j] l'[j] else Ow.ordM (l.drop (j + 1)) (l'.drop (j + 1)) by
     rw [List.drop_eq_getElem_cons hlt, List.drop_eq_getElem_cons hlt']; simp only [Ow.ordM])
    have HCALL := Lib.hid (fun w => orderMembers_any (l[j]'hlt) (l'[j]'hlt') k1 b1 n1 g1 x1 s1 A1 l1 p1 B1 m1 d1 k2 b2 n2 g2 x2 s2 A2 l2 p2 B2 m2 d2 w)
    have HCA := Lib.hid (HCC.out (l[j]'hlt) (List.getElem_mem hlt) (l'[j]'hlt') (List.getElem_mem hlt'))
    have HG := Lib.hid ((hW.alloc (.cells #[.string ⟨l[j].1.toArray⟩, .int .i64 k1, .bool b1, .bool n1, .string ⟨g1.toArray⟩, .int .i64 x1, .string ⟨s1.toArray⟩, .slice A1 l1 p1, .slice B1 m1 d1] 91)).alloc (.cells #[.string ⟨l'[j].1.toArray⟩, .int .i64 k2, .bool b2, .bool n2, .string ⟨g2.toArray⟩, .int .i64 x2, .string ⟨s2.toArray⟩, .slice A2 l2 p2, .slice B2 m2 d2] 91))
    clear hc hc' hy hy' hk hk' hle hle2 hW
    generalize Ow.ordP l[j] l'[j] = q at HSTEP HCALL
    generalize l[j].1 = key at *
    generalize l'[j].1 = key' at *
    go_wp2_with fail
    refine (HCALL.out _ HY.out HY'.out HCA.out).mono ?_
    rintro e' w2 ⟨rfl, hb2⟩
    have HG2 := Lib.hid (HG.out.trans hb2)
    clear hb2
    by_cases h0 : q = 0
    ·subst h0
     go_wp2_with fail
     go_roundw
     case rel => exact ⟨j + 1, by omega, by omega, by go_num, by rw [HSM.out, HSTEP.out]; rfl, HG2.out⟩
     case measure => simp [intOf]; omega
    ·have h1 : (q == 0) = false := by simpa using h0
     have h2 : (q != 0) = true := by simpa using h0
     have H0 := Lib.hid h0
     clear h0
     go_wp2_with fail
     go_ret
     exact ⟨by rw [HSM.out, HSTEP.out, if_pos H0.out]; rfl, HG2.out⟩
   ·have hge : l'.length ≤ j := by omega
    have hle : Cl.le w.cell? wr.cell? := le_below hW.below
    obtain ⟨e0, e1, e2, e3, e4, e5, e6, e7⟩ := (hc.keep hle).eight
    have ek := hle _ _ hk
    have HE := Lib.hid (show Ow.ordM (l.drop j) (l'.drop j) = 1 by
     rw [List.drop_eq_getElem_cons hlt, List.drop_eq_nil_of_le hge]; simp only [Ow.ordM])
    have HG := Lib.hid (hW.alloc (.cells #[.string ⟨l[j].1.toArray⟩, .int .i64 k1, .bool b1, .bool n1, .string ⟨g1.toArray⟩, .int .i64 x1, .string ⟨s1.toArray⟩, .slice A1 l1 p1, .slice B1 m1 d1] 91))
    clear hc hy hk hle hW
    generalize l[j].1 = key at *
    go_wp2_with fail
    go_ret
    exact ⟨by rw [HSM.out, HE.out]; rfl, HG.out⟩
  ·obtain rfl : j = l.length := by omega
   clear hW
   by_cases hlt' : l.length < l'.length
   ·have HE := Lib.hid (show Ow.ordM (l.drop l.length) (l'.drop l.length) = -1 by
     rw [List.drop_length, List.drop_eq_getElem_cons hlt']; simp only [Ow.ordM])
    go_wp2_with fail
    go_ret
    exact ⟨by rw [HSM.out, HE.out]; rfl, HW.out⟩
   ·have HE := Lib.hid (show Ow.ordM (l.drop l.length) (l'.drop l.length) = 0 by
     rw [List.drop_length, List.drop_eq_nil_of_le (by omega)]; simp only [Ow.ordM])
    go_wp2_with fail
    go_ret
    exact ⟨by rw [HSM.out, HE.out]; rfl, HW.out⟩

set_option linter.unusedVariables false in
set_option linter.unusedSimpArgs false in
set_option maxRecDepth 100000 in
set_option maxHeartbeats 2000000 in
theorem order_any (v : Vl) : ∀ (v' : Vl) (x x' : Value) (w : World), v.may = true → v'.may = true → v.In w.cell? x → v'.In w.cell? x' →
  Calls Tryz.prog 60 #[x, x'] w fun e w' => e = .returned (.int .i64 (Ow.ord v v')) ∧ Grew w w' := by
 induction v using Vl.ind with
 | h k b n s l m hl hm =>
 rintro ⟨k', b', n', s', l', m'⟩ x x' w hv hv' hx hx'
 obtain ⟨A, e, B, d, rfl, q1, q2, q3, q4, q5, q6⟩ := In.form hx
 obtain ⟨A', e', B', d', rfl, q1', q2', q3', q4', q5', q6'⟩ := In.form hx'
 obtain ⟨o0, o1, o2, o3, o4, o5, o6, o7, o8, o9, o10, o11⟩ := may_own hv
 obtain ⟨r0, r1, r2, r3, r4, r5, r6, r7, r8, r9, r10, r11⟩ := may_own hv'
 obtain ⟨neg, dg, ex⟩ := n
 obtain ⟨neg', dg', ex'⟩ := n'
 have HL := Lib.hid hl
 have HM := Lib.hid hm
 have HO := Lib.hid (Ow.ord_mk k b ⟨neg, dg, ex⟩ s l m k' b' ⟨neg', dg', ex'⟩ s' l' m')
 have H5 := Lib.hid (show SlL w.cell? A l from q5)
 have H6 := Lib.hid (show SlM w.cell? B m from q6)
 have H5' := Lib.hid (show SlL w.cell? A' l' from q5')
 have H6' := Lib.hid (show SlM w.cell? B' m' from q6')
 have HB := Lib.hid (((Grew.refl w).alloc (.cells #[.int .i64 k, .bool b, .bool neg, .string ⟨dg.toArray⟩, .int .i64 ex, .string ⟨s.toArray⟩, .slice A l.length e, .slice B m.length d] 31)).alloc (.cells #[.int .i64 k', .bool b', .bool neg', .string ⟨dg'.toArray⟩, .int .i64 ex', .string ⟨s'.toArray⟩, .slice A' l'.length e', .slice B' m'.length d'] 31))
 have HN := Lib.hid (mayNum_May o7).fair
 have HN' := Lib.hid (mayNum_May r7).fair
 have HEL := Lib.hid (fun W hs hs' => compareL_any l l' A A' e e' W q1 q1' q2 q2' hs hs' (fun v hv v' hv' x x' w hx hx' => HL.out v hv v' x x' w ((mayL_iff l).1 o9 v hv) ((mayL_iff l').1 r9 v' hv') hx hx'))
 have HEM := Lib.hid (fun W hs hs' => compareM_any m m' B B' d d' W q3 q3' q4 q4' hs hs' (fun v hv v' hv' x x' w hx hx' => HM.out v hv v'.2 x x' w ((mayM_iff m).1 o10 v hv).2 ((mayM_iff m').1 r10 v' hv').2 hx hx'))
 have K1 := Lib.hid (H5.out.keep (le_below HB.out.below))
 have K2 := Lib.hid (H5'.out.keep (le_below HB.out.below))
 have K3 := Lib.hid (H6.out.keep (le_below HB.out.below))
 have K4 := Lib.hid (H6'.out.keep (le_below HB.out.below))
 clear hl hm hx hx' q5 q6 q5' q6' hv hv' o2 o3 o4 o5 o6 o7 o8 o9 o10 o11 r2 r3 r4 r5 r6 r7 r8 r9 r10 r11 HL HM H5 H6 H5' H6'
 unfold maxLen at q2 q2' q4 q4'
 by_cases hk : k = k'
 ·subst hk
  have hkk : k = 0 ∨ k = 1 ∨ k = 2 ∨ k = 3 ∨ k = 4 ∨ k = 5 := by omega
  rcases hkk with rfl | rfl | rfl | rfl | rfl | rfl
  ·go_enter Tryz.func60, Tryz.ntmps60
   go_wp2_with fail
   go_ret
   exact ⟨by rw [HO.out]; rfl, HB.out⟩
  ·have HO2 := Lib.hid (show Ow.ord (.mk 1 b ⟨neg, dg, ex⟩ s l m) (.mk 1 b' ⟨neg', dg', ex'⟩ s' l' m') = Ow.rankB b - Ow.rankB b' by rw [HO.out]; rfl)
   have HR := Lib.hid (fun W => rank_any b W)
   have HR' := Lib.hid (fun W => rank_any b' W)
   have hr1 : 0 ≤ Ow.rankB b ∧ Ow.rankB b ≤ 1 := by cases b <;> decide
   have hr2 : 0 ≤ Ow.rankB b' ∧ Ow.rankB b' ≤ 1 := by cases b' <;> decide
   have HBA := Lib.hid ((Blk.new w 31 #[.int .i64 1, .bool b, .bool neg, .string ⟨dg.toArray⟩, .int .i64 ex, .string ⟨s.toArray⟩, .slice A l.length e, .slice B m.length d]).alloc (.cells #[.int .i64 1, .bool b', .bool neg', .string ⟨dg'.toArray⟩, .int .i64 ex', .string ⟨s'.toArray⟩, .slice A' l'.length e', .slice B' m'.length d'] 31))
   have HBB := Lib.hid (Blk.new2 w (.cells #[.int .i64 1, .bool b, .bool neg, .string ⟨dg.toArray⟩, .int .i64 ex, .string ⟨s.toArray⟩, .slice A l.length e, .slice B m.length d] 31) 31 #[.int .i64 1, .bool b', .bool neg', .string ⟨dg'.toArray⟩, .int .i64 ex', .string ⟨s'.toArray⟩, .slice A' l'.length e', .slice B' m'.length d'])
   clear HO
   generalize Ow.rankB b = r at *
   generalize Ow.rankB b' = r' at *
   obtain ⟨hr3, hr4⟩ := hr1
   obtain ⟨hr5, hr6⟩ := hr2
   have HWR := Lib.hid (show IntKind.i64.wrap (r - r') = r - r' by simp [IntKind.wrap, IntKind.bits, IntKind.signed]; omega)
   go_enter Tryz.func60, Tryz.ntmps60
   go_upto_region 5 with (fail)
   generalize (w.alloc (.cells #[.int .i64 1, .bool b, .bool neg, .string ⟨dg.toArray⟩, .int .i64 ex, .string ⟨s.toArray⟩, .slice A l.length e, .slice B m.length d] 31)).alloc (.cells #[.int .i64 1, .bool b', .bool neg', .string ⟨dg'.toArray⟩, .int .i64 ex', .string ⟨s'.toArray⟩, .slice A' l'.length e', .slice B' m'.length d'] 31) = w0 at *
   have HC := Lib.hid (fun (W : World) (h : Below w0.heap.size w0 W) => (show W.cell? ⟨w.heap.size, 1, none⟩ = some (.bool b) ∧ w.heap.size < W.heap.size ∧ W.cell? ⟨w.heap.size + 1, 1, none⟩ = some (.bool b') ∧ w.heap.size + 1 < W.heap.size from ⟨(HBA.out.on h).cell 1, (HBA.out.on h).lt, (HBB.out.on h).cell 1, (HBB.out.on h).lt⟩))
   clear HBA HBB
   refine wp_region_held_drew (S := fun W9 => Grew w0 W9) (by kernel_rfl) (show Grew w0 w0.drew from (Grew.refl _).drew) (fun ht => ?_)
   generalize w0.drew = w8 at *
   refine wpAnyH_take (i := 0) (oi := ⟨some _, _, _, _, _, _⟩) (v := (.pointer (some ⟨w.heap.size, 1, none⟩))) rfl (by kernel_rfl) (by kernel_rfl) (by kernel_rfl) (fun _ _ _ h => h) (Or.inl ⟨by rfl, ?_⟩) ht ?_
   ·intro W9 hSw
    go_simp
   try simp only [Act.put, List.setIfInBounds_toArray, List.set_cons_zero, List.set_cons_succ]
   refine wpAnyH_take (i := 1) (oi := ⟨some _, _, _, _, _, _⟩) (v := (.bool b)) rfl (by kernel_rfl) (by kernel_rfl) (by kernel_rfl) (fun _ _ _ h => h) (Or.inl ⟨by rfl, ?_⟩) ht ?_
   ·intro W9 hSw
    obtain ⟨x1, xl, y1, yl⟩ := HC.out W9 hSw.below
    go_simp
   try simp only [Act.put, List.setIfInBounds_toArray, List.set_cons_zero, List.set_cons_succ]
   refine wpAnyH_take (i := 3) (oi := ⟨some _, _, _, _, _, _⟩) (v := (.pointer (some ⟨w.heap.size + 1, 1, none⟩))) rfl (by kernel_rfl) (by kernel_rfl) (by kernel_rfl) (fun _ _ _ h => h) (Or.inl ⟨by rfl, ?_⟩) ht ?_
   ·intro W9 hSw
    go_simp
   try simp only [Act.put, List.setIfInBounds_toArray, List.set_cons_zero, List.set_cons_succ]
   refine wpAnyH_take (i := 4) (oi := ⟨some _, _, _, _, _, _⟩) (v := (.bool b')) rfl (by kernel_rfl) (by kernel_rfl) (by kernel_rfl) (fun _ _ _ h => h) (Or.inl ⟨by rfl, ?_⟩) ht ?_
   ·intro W9 hSw
    obtain ⟨x1, xl, y1, yl⟩ := HC.out W9 hSw.below
    go_simp
   try simp only [Act.put, List.setIfInBounds_toArray, List.set_cons_zero, List.set_cons_succ]
   refine wpAnyH_ready (rs := [2]) (by kernel_rfl) (by simp) ?_
   refine AllReadyH.cons (o := ⟨some _, _, _, _, _, _⟩) rfl (fun K hK => ?_) (AllReadyH.nil)
   go_simp
   refine (HR.out _).mono ?_
   rintro e2 w2 ⟨rfl, rfl⟩
   have hs := ht
   clear ht
   go_wp2_with fail
   refine hK.out _ _ hs (fun ht => ?_)
   clear hK K hs
   try simp only [Act.put, List.setIfInBounds_toArray, List.set_cons_zero, List.set_cons_succ]
   refine wpAnyH_ready (rs := [5]) (by kernel_rfl) (by simp) ?_
   refine AllReadyH.cons (o := ⟨some _, _, _, _, _, _⟩) rfl (fun K hK => ?_) (AllReadyH.nil)
   go_simp
   refine (HR'.out _).mono ?_
   rintro e5 w5 ⟨rfl, rfl⟩
   have hs := ht
   clear ht
   go_wp2_with fail
   refine hK.out _ _ hs (fun ht => ?_)
   clear hK K hs
   try simp only [Act.put, List.setIfInBounds_toArray, List.set_cons_zero, List.set_cons_succ]
   refine wpAnyH_take (i := 6) (oi := ⟨some _, _, _, _, _, _⟩) (v := (.int .i64 (r - r'))) rfl (by kernel_rfl) (by kernel_rfl) (by kernel_rfl) (fun _ _ _ h => h) (Or.inl ⟨by rfl, ?_⟩) ht ?_
   ·intro W9 hSw
    go_simp
    exact HWR.out
   try simp only [Act.put, List.setIfInBounds_toArray, List.set_cons_zero, List.set_cons_succ]
   refine wpAnyH_take (i := 7) (oi := ⟨some _, _, _, _, _, _⟩) (v := (.int .i64 (r - r'))) rfl (by kernel_rfl) (by kernel_rfl) (by kernel_rfl) (fun _ _ _ h => h) (Or.inl ⟨by rfl, ?_⟩) ht ?_
   ·intro W9 hSw
    go_simp
   try simp only [Act.put, List.setIfInBounds_toArray, List.set_cons_zero, List.set_cons_succ]
   refine wpAnyH_done (by kernel_rfl) ?_ _
   have hfin := HB.out.trans ht
   clear ht
   go_wp2_with fail
   go_ret
   exact ⟨by rw [HO2.out]; rfl, hfin⟩
  ·have HC := Lib.hid (fun W => cmp14 neg dg ex neg' dg' ex' W HN.out HN'.out)
   have HO2 := Lib.hid (show Ow.ord (.mk 2 b ⟨neg, dg, ex⟩ s l m) (.mk 2 b' ⟨neg', dg', ex'⟩ s' l' m') = Nm.cmp ⟨neg, dg, ex⟩ ⟨neg', dg', ex'⟩ by rw [HO.out]; rfl)
   clear HO
   generalize Nm.cmp ⟨neg, dg, ex⟩ ⟨neg', dg', ex'⟩ = q at HO2 HC
   go_enter Tryz.func60, Tryz.ntmps60
   go_wp2_with fail
   refine (HC.out _).mono ?_
   rintro e1 w1 ⟨rfl, hb1⟩
   have hb := HB.out.trans hb1
   go_wp2_with fail
   go_ret
   exact ⟨by rw [HO2.out]; rfl, hb⟩
  ·have HC := Lib.hid (fun (W' : World) => Tryz.strings_Compare ⟨s.toArray⟩ ⟨s'.toArray⟩ W')
   have HO2 := Lib.hid (show Ow.ord (.mk 3 b ⟨neg, dg, ex⟩ s l m) (.mk 3 b' ⟨neg', dg', ex'⟩ s' l' m') = Lib.compareBytes s s' by rw [HO.out]; rfl)
   clear HO
   unfold ByteArray.data at HC
   simp only at HC
   generalize Lib.compareBytes s s' = q at HO2 HC
   go_enter Tryz.func60, Tryz.ntmps60
   go_wp2_with fail
   refine (HC.out _).mono ?_
   rintro e1 w1 ⟨rfl, rfl⟩
   go_wp2_with fail
   go_ret
   exact ⟨by rw [HO2.out]; rfl, HB.out⟩
  ·have HO2 := Lib.hid (show Ow.ord (.mk 4 b ⟨neg, dg, ex⟩ s l m) (.mk 4 b' ⟨neg', dg', ex'⟩ s' l' m') = Ow.ordL l l' by rw [HO.out, Ow.ordL_lex]; rfl)
   clear HO
   generalize Ow.ordL l l' = q at HO2 HEL
   go_enter Tryz.func60, Tryz.ntmps60
   go_wp2_with fail
   refine (HEL.out _ K1.out K2.out).mono ?_
   rintro e1 w1 ⟨rfl, hb1⟩
   have hb := HB.out.trans hb1
   go_wp2_with fail
   go_ret
   exact ⟨by rw [HO2.out]; rfl, hb⟩
  ·have HO2 := Lib.hid (show Ow.ord (.mk 5 b ⟨neg, dg, ex⟩ s l m) (.mk 5 b' ⟨neg', dg', ex'⟩ s' l' m') = Ow.ordM m m' by rw [HO.out, Ow.ordM_lex]; rfl)
   clear HO
   generalize Ow.ordM m m' = q at HO2 HEM
   go_enter Tryz.func60, Tryz.ntmps60
   go_wp2_with fail
   refine (HEM.out _ K3.out K4.out).mono ?_
   rintro e1 w1 ⟨rfl, hb1⟩
   have hb := HB.out.trans hb1
   go_wp2_with fail
   go_ret
   exact ⟨by rw [HO2.out]; rfl, hb⟩
 ·have t1 : (k == k') = false := by simpa using hk
  have t2 : (k != k') = true := by simpa using hk
  have HO2 := Lib.hid (show Ow.ord (.mk k b ⟨neg, dg, ex⟩ s l m) (.mk k' b' ⟨neg', dg', ex'⟩ s' l' m') = k - k' by rw [HO.out, if_pos hk])
  clear hk HO
  go_enter Tryz.func60, Tryz.ntmps60
  go_wp2_with fail
  go_ret
  exact ⟨by rw [HO2.out] <;> go_num, HB.out⟩

end Go.Proofs.YtolkfgikomminaaGreatDoor

namespace Go.Proofs.YtolkfgikomminaaGreatDoor
open Go.RowKit Js
open Go.Sort (SWO HoldsK PermIn SortedIn putRowK putRow mapBlock onCells ahead)

set_option linter.unusedVariables false in
set_option linter.unusedSimpArgs false in
set_option maxRecDepth 100000 in
set_option maxHeartbeats 2000000 in
theorem cloneV14_any (l : List Vl) (A : Option Addr) (c : Nat) (w : World) (h : SlL w.cell? A l) (hn : l.length ≤ 1000000) : Calls Tryz.prog 58 #[.slice A l.length c] w fun e w' => ∃ flat, FlatV w.cell? l flat ∧ NewV w l.length flat e w' := by
 cases A with
 | none =>
  have hl : l = [] := by
   cases l with
   | nil => rfl
   | cons v r => obtain ⟨g, o, y, h0, _⟩ := h 0 v rfl; cases h0
  subst hl
  rw [show ([] : List Vl).length = 0 from rfl]
  have hnil : ∀ W, (binOp .eql 28 (.slice none 0 c) (.slice none 0 0)).run Tryz.prog W = .ok (.bool true) W := fun W => Lib.run_eql_slice_nil W _ 31 none 0 c 0 0 Tryz.underlying28
  have HW := Lib.hid (show NewV w 0 [] (.returned (.slice none 0 0)) w from ⟨none, 0, rfl, World.ownsRow_nil _ _ _ _, Below.refl _ _⟩)
  clear h
  go_enter Tryz.func58, Tryz.ntmps58
  go_wp2_with fail
  go_ret
  exact ⟨[], FlatV.nil _, HW.out⟩
 | some ad =>
  have hnil : ∀ W, (binOp .eql 28 (.slice (some ad) l.length c) (.slice none 0 0)).run Tryz.prog W = .ok (.bool false) W := fun W => Lib.run_eql_slice_nil W _ 31 (some ad) l.length c 0 0 Tryz.underlying28
  obtain ⟨i0, hi0, hz0, hz1, hz2⟩ := info8x
  obtain ⟨flat, hf, hs⟩ := SlV_flat (S := fun _ => True) (w := w) (A := some ad) (m := l) (h.keep fun p u hp => on_some.2 ⟨trivial, hp⟩)
  have hf' : FlatV w.cell? l flat := hf.keep (le_on _ _)
  have HF := Lib.hid hf'
  have HBE := Lib.hid ((Below.refl w.heap.size w).alloc (Nat.le_refl _) (.cells #[] 31))
  have HOWE := Lib.hid (show (w.alloc (.cells #[] 31)).ownsRow w.heap.size 31 8 (.slice (some ⟨w.heap.size, 0, none⟩) 0 0) 0 [] from World.ownsRow_lit w #[] 0 (Nat.le_refl _) (by unfold maxLen; omega) rfl)
  have HS := Lib.hid (hs.keep HBE.out)
  have hfl : flat.length = l.length * 8 := hf'.1
  have hf1 := hf'.2.1
  clear h hf hf' hs
  go_enter Tryz.func58, Tryz.ntmps58
  go_wp2_with (at_builtin; refine wpList_append_srcx _ rfl _ _ _ rfl w.heap.size 31 i0 _ 8 112 Tryz.underlying28 hi0 hz0 hz1 hz2 rfl (by omega) (.slice (some ⟨w.heap.size, 0, none⟩) 0 0) 0 [] rfl HOWE.out (some ad) l.length c flat rfl hfl HS.out hf1 (by unfold maxLen; omega) (by omega) (by simp) l.length (by omega) ?_; intro A1 c1 w1 hown1 hg1; have HOW1 := Lib.hid (show w1.ownsRow w.heap.size 31 8 (.slice A1 l.length c1) l.length flat from hown1); have HB1 := Lib.hid (HBE.out.grown hg1 HBE.out.size (fun b hb => by have h9 := own_far HOWE.out (k := b); exact Nat.le_of_not_lt (fun hlt => h9 hlt hb.symm))); clear hown1 hg1)
  go_ret
  exact ⟨flat, HF.out, A1, c1, rfl, HOW1.out, HB1.out⟩

structure It14 (c : Cl) where
 v : Vl
 y : Value
 may : v.may = true
 lies : v.In c y
theorem null14_in (c : Cl) : (Vl.mk 0 false Nm.Num.zero [] [] []).In c (vlV 0 false false [] 0 [] (.slice none 0 0) (.slice none 0 0)) := by
 simp only [Vl.In]
 exact ⟨none, 0, none, 0, rfl, Nat.le_refl _, Nat.zero_le _, Nat.le_refl _, Nat.zero_le _, fun h => absurd h (Nat.lt_irrefl _), fun h => absurd h (Nat.lt_irrefl _)⟩
instance (c : Cl) : Inhabited (It14 c) := ⟨⟨_, _, rfl, null14_in c⟩⟩
def enc14 {c : Cl} (x : It14 c) : List Value := x.y.cells.toList
theorem enc14_form {c : Cl} (x : It14 c) : ∃ c0 c1 c2 c3 c4 c5 c6 c7, enc14 x = [c0, c1, c2, c3, c4, c5, c6, c7] ∧ x.y = .agg #[c0, c1, c2, c3, c4, c5, c6, c7] ∧ ∀ u ∈ enc14 x, u.oneCell' = true := by
 obtain ⟨v, y, hm, hl⟩ := x
 obtain ⟨k, b, neg, dg, ex, s, A, n, e, B, m, d, rfl⟩ := In.cells hl
 refine ⟨_, _, _, _, _, _, _, _, rfl, rfl, fun u hu => ?_⟩
 exact (cells8 hl).2 u hu
theorem enc14_length {c : Cl} (x : It14 c) : (enc14 x).length = 8 := by
 obtain ⟨_, _, _, _, _, _, _, _, h, _⟩ := enc14_form x
 rw [h]; rfl
theorem enc14_agg {c : Cl} (x : It14 c) : Value.agg (enc14 x).toArray = x.y := by
 obtain ⟨_, _, _, _, _, _, _, _, h, h2, _⟩ := enc14_form x
 rw [h, h2]
def cf14 {c : Cl} (a b : It14 c) : Int := Ow.ord a.v b.v
theorem swo14 {c : Cl} : SWO (ltOf (cf14 (c := c))) where
 irrefl x := by
  unfold ltOf cf14
  rw [decide_eq_false_iff_not, (Ow.ord_zero _ _ x.may x.may).2 rfl]
  omega
 trans x y z h1 h2 := by
  unfold ltOf cf14 at *
  rw [decide_eq_true_eq] at *
  have f1 := Ow.ord_flip _ _ x.may y.may
  have n := Ow.ord_next _ _ _ x.may y.may z.may (by omega) (by omega)
  have hz := Ow.ord_zero _ _ x.may z.may
  by_cases e : Ow.ord x.v z.v = 0
  ·have e2 := hz.1 e
   rw [← e2] at h2
   omega
  ·omega
 ntrans x y z h1 h2 := by
  unfold ltOf cf14 at *
  rw [decide_eq_false_iff_not] at *
  have f1 := Ow.ord_flip _ _ x.may y.may
  have f2 := Ow.ord_flip _ _ y.may z.may
  have f3 := Ow.ord_flip _ _ x.may z.may
  have n := Ow.ord_next _ _ _ z.may y.may x.may (by omega) (by omega)
  omega
theorem items14 {c : Cl} {flat : List Value} {l : List Vl} (hf : FlatV c l flat) (hm : ∀ v ∈ l, v.may = true) : ∃ Z : List (It14 c), Z.map (·.v) = l ∧ flat = Z.flatMap enc14 := by
 have h2 : ∀ n, n ≤ l.length → ∃ Z : List (It14 c), Z.map (·.v) = l.take n ∧ flat.take (n * 8) = Z.flatMap enc14 := by
  intro n
  induction n with
  | zero => intro _; exact ⟨[], by simp, by simp⟩
  | succ n ih =>
   intro hn
   obtain ⟨Z, hZ, hz⟩ := ih (by omega)
   have hat : l[n]? = some l[n] := List.getElem?_eq_getElem (by omega)
   obtain ⟨y, hy, hc⟩ := hf.2.2 n _ hat
   refine ⟨Z ++ [⟨l[n], y, hm _ (List.getElem_mem _), hy⟩], ?_, ?_⟩
   ·rw [List.map_append, hZ, List.take_succ_eq_append_getElem (by omega)]; rfl
   ·rw [List.flatMap_append, ← hz, show (n + 1) * 8 = n * 8 + 8 by omega, List.take_add]
    congr 1
    obtain ⟨c0, c1, c2, c3, c4, c5, c6, c7, h8, h9, _⟩ := enc14_form (⟨l[n], y, hm _ (List.getElem_mem _), hy⟩ : It14 c)
    simp only at h9
    rw [List.flatMap_cons, List.flatMap_nil, List.append_nil, h8]
    have hfl := hf.1
    subst h9
    apply List.ext_getElem?
    intro j
    rw [List.getElem?_take]
    by_cases hj : j < 8
    ·rw [if_pos hj, List.getElem?_drop]
     match j, hj with
     | 0, _ => exact hc 0 _ rfl
     | 1, _ => exact hc 1 _ rfl
     | 2, _ => exact hc 2 _ rfl
     | 3, _ => exact hc 3 _ rfl
     | 4, _ => exact hc 4 _ rfl
     | 5, _ => exact hc 5 _ rfl
     | 6, _ => exact hc 6 _ rfl
     | 7, _ => exact hc 7 _ rfl
    ·rw [if_neg hj, List.getElem?_eq_none (by simp; omega)]
 obtain ⟨Z, h3, h4⟩ := h2 l.length (Nat.le_refl _)
 refine ⟨Z, by rw [h3, List.take_length], ?_⟩
 rw [← h4, ← hf.1, List.take_length]
theorem flat14_length {c : Cl} (Z : List (It14 c)) : (Z.flatMap enc14).length = Z.length * 8 := by
 induction Z with
 | nil => rfl
 | cons x Z ih => rw [List.flatMap_cons, List.length_append, enc14_length, ih, List.length_cons]; omega
theorem flat14_at {c : Cl} : ∀ {Z : List (It14 c)} {i : Nat} {x : It14 c}, Z[i]? = some x → ∀ q u, (enc14 x)[q]? = some u → (Z.flatMap enc14)[i * 8 + q]? = some u
 | [], i, x, h, _, _, _ => by simp at h
 | x0 :: Z, 0, x, h, q, u, hu => by
  simp only [List.getElem?_cons_zero, Option.some.injEq] at h
  subst h
  have hq := (List.getElem?_eq_some_iff.1 hu).1
  rw [List.flatMap_cons, Nat.zero_mul, Nat.zero_add, List.getElem?_append_left hq]; exact hu
 | x0 :: Z, i + 1, x, h, q, u, hu => by
  rw [List.getElem?_cons_succ] at h
  rw [List.flatMap_cons, List.getElem?_append_right (by rw [enc14_length]; omega), enc14_length, show (i + 1) * 8 + q - 8 = i * 8 + q by omega]
  exact flat14_at h q u hu
theorem items14_flat {c : Cl} (Z : List (It14 c)) : FlatV c (Z.map (·.v)) (Z.flatMap enc14) := by
 refine ⟨by rw [flat14_length, List.length_map], fun u hu => ?_, fun i v hi => ?_⟩
 ·obtain ⟨x, _, hx⟩ := List.mem_flatMap.1 hu
  obtain ⟨_, _, _, _, _, _, _, _, _, _, h⟩ := enc14_form x
  exact h u hx
 ·rw [List.getElem?_map] at hi
  cases hz : Z[i]? with
  | none => rw [hz] at hi; cases hi
  | some x =>
   rw [hz] at hi
   simp only [Option.map_some, Option.some.injEq] at hi
   subst hi
   exact ⟨x.y, x.lies, fun j u hj => flat14_at hz j u (by unfold enc14; rw [Array.getElem?_toList]; exact hj)⟩
theorem own_holds14 {c : Cl} {w : World} {B g n cp : Nat} {Z : List (It14 c)} (h : w.ownsRow B 31 8 (.slice (some ⟨g, 0, none⟩) n cp) n (Z.flatMap enc14)) : HoldsK enc14 8 w g 0 Z.toArray := by
 intro t ht
 rw [Sort.size_flatK, List.size_toArray] at ht
 refine ⟨?_, h.frozenAt _⟩
 rw [Sort.get_flatK _ _ _ _ (by simpa using ht), Nat.zero_add]
 have hq : t / 8 < Z.length := by omega
 have e1 : Z.toArray[t / 8]! = Z[t / 8] := by rw [getElem!_pos Z.toArray _ (by simpa using hq)]; simp
 rw [e1]
 have h9 : (enc14 Z[t / 8]).length = 8 := enc14_length _
 have h6 : (enc14 Z[t / 8])[t % 8]? = some ((enc14 Z[t / 8])[t % 8]!) := by
  rw [getElem!_pos _ _ (by rw [h9]; omega)]
  exact List.getElem?_eq_getElem _
 have h7 := flat14_at (List.getElem?_eq_getElem hq) (t % 8) _ h6
 rw [show t / 8 * 8 + t % 8 = t by omega] at h7
 exact own_cell h t _ h7
theorem holds_own14 {c : Cl} {w : World} {B g cp : Nat} {d : List (It14 c)} {cur : Array Value} (hH : HoldsK enc14 8 w g 0 d.toArray) (hc : w.heap[g]? = some (.cells cur 31 (0, 0))) (hs : cur.size = cp * 8) (hB : B ≤ g) (h1 : d.length ≤ cp) (h2 : cp ≤ maxLen) :
  w.ownsRow B 31 8 (.slice (some ⟨g, 0, none⟩) d.length cp) d.length (d.flatMap enc14) := by
 refine ⟨flat14_length d, .inr ⟨g, cp, cur, rfl, hB, hc, h1, h2, hs, ?_⟩⟩
 apply List.ext_getElem?
 intro j
 by_cases hj : j < d.length * 8
 ·rw [List.getElem?_take, if_pos hj]
  have hq : j / 8 < d.length := by omega
  have h9 : (enc14 d[j / 8]).length = 8 := enc14_length _
  have h8 := hH.cell (i := j / 8) (c := j % 8) (by simpa using hq) (by omega)
  have e1 : d.toArray[j / 8]! = d[j / 8] := by rw [getElem!_pos d.toArray _ (by simpa using hq)]; simp
  rw [e1, getElem!_pos _ _ (by rw [h9]; omega), show 0 + j / 8 * 8 + j % 8 = j by omega, cell_of_row w g j cur _ (0, 0) hc] at h8
  have h7 := flat14_at (List.getElem?_eq_getElem hq) (j % 8) _ (List.getElem?_eq_getElem (by rw [h9]; omega))
  rw [show j / 8 * 8 + j % 8 = j by omega] at h7
  rw [h7, ← h8.1]
  simp
 ·rw [List.getElem?_eq_none (by rw [List.length_take]; omega), List.getElem?_eq_none (by rw [flat14_length]; omega)]
theorem grown_sorted14 {c : Cl} {w : World} {g n : Nat} {os : Array Obj} (d : Array (It14 c)) : w.grownBy (sortWorldK enc14 8 w g 0 n d os) (some g) := by
 unfold sortWorldK putRowK
 refine ⟨rfl, rfl, rfl, by simp, fun k hk hne => ?_⟩
 rw [Sort.heap_grow_old _ _ (by simpa using hk)]
 have : g ≠ k := fun e => hne (by rw [e])
 simp [putRow, mapBlock, Array.getElem?_modify, this]
theorem sorted_row14 {c : Cl} {w : World} {g n : Nat} {os : Array Obj} {cur : Array Value} {e : TypeId} (d : Array (It14 c)) (hc : w.heap[g]? = some (.cells cur e (0, 0))) : ∃ cur', (sortWorldK enc14 8 w g 0 n d os).heap[g]? = some (.cells cur' e (0, 0)) ∧ cur'.size = cur.size := by
 have hg : g < w.heap.size := (Array.getElem?_eq_some_iff.1 hc).1
 unfold sortWorldK putRowK
 rw [Sort.heap_grow_old _ _ (by simpa using hg)]
 refine ⟨Sort.putCells id 0 (Sort.flatK enc14 8 d) cur, ?_, by simp [Sort.putCells]⟩
 simp only [putRow, mapBlock, Array.getElem?_modify, if_true]
 rw [show (Sort.ahead w n).heap[g]? = some (.cells cur e (0, 0)) from hc]
 rfl

set_option maxHeartbeats 2000000 in
theorem sortV14_any {c : Cl} {w : World} {B : Nat} {A : Option Addr} {cp : Nat} {l : List Vl} {flat : List Value} (hc : c.le (w.on (· < B))) (hown : w.ownsRow B 31 8 (.slice A l.length cp) l.length flat) (hf : FlatV c l flat) (hm : ∀ v ∈ l, v.may = true) (hl : l.length ≤ 1000000) :
  Calls Tryz.prog 59 #[.slice A l.length cp, .func (.func 60) #[] #[]] w fun e w' => e = .returned (.tuple #[]) ∧ Below B w w' ∧ ∃ (d : List Vl) (flat' : List Value), d.Perm l ∧ Ow.Ordered d ∧ w'.ownsRow B 31 8 (.slice A l.length cp) l.length flat' ∧ FlatV c d flat' := by
 obtain ⟨Z, hZ, rfl⟩ := items14 hf hm
 have hlen : l.length = Z.length := by rw [← hZ, List.length_map]
 rw [hlen] at hown hl ⊢
 subst hZ
 clear hf hm hlen
 cases Z with
 | nil =>
  refine (AnyF.slices_SortFunc_none Tryz.sortw A cp _ w).mono ?_
  rintro e w' ⟨rfl, rfl⟩
  exact ⟨rfl, .refl _ _, [], [], List.Perm.refl _, (fun i j h _ => absurd h (Nat.not_lt_zero _)), hown, FlatV.nil _⟩
 | cons p0 l0 =>
  generalize hll : p0 :: l0 = l at *
  have hpos : 0 < l.length := by rw [← hll]; simp
  clear hll
  have hle := own_le hown
  obtain ⟨g, rfl, hg1, hg2⟩ : ∃ g, A = some ⟨g, 0, none⟩ ∧ B ≤ g ∧ g < w.heap.size := by
   cases A with
   | none => have := (hle.2.2.1 rfl).1; omega
   | some ad => obtain ⟨g, rfl, h1, h2⟩ := hle.2.2.2 ad rfl; exact ⟨g, rfl, h1, h2⟩
  obtain ⟨cur, hcur, hcs⟩ : ∃ cur, w.heap[g]? = some (.cells cur 31 (0, 0)) ∧ cur.size = cp * 8 := by
   rcases hown.2 with ⟨h0, _⟩ | ⟨g', cap, cur, h1, h2, h3, _, _, h4, _⟩
   ·cases h0
   ·injection h1 with e1 e2 e3
    injection e1 with e1
    injection e1 with e1
    subst e1 e3
    exact ⟨cur, h3, h4⟩
  have hH := own_holds14 hown
  have hds : l.toArray.size = l.length := by simp
  have eg : ∀ args w, (callFunc 60 args).run Tryz.prog w = .ok (.enter 60 args) w := enters_of Tryz.func60 (by kernel_rfl) rfl
  have hcmp : CmpLays Tryz.prog 60 #[] enc14 8 (cf14 (c := c)) g 0 l.toArray.size w := by
   intro m os dk _ x y
   have hle : c.le (sortWorldK enc14 8 w g 0 m dk os).cell? := fun p u hp => by
    obtain ⟨h1, h2⟩ := on_some.1 (hc p u hp)
    have hb := (Below.refl B w).grown (grown_sorted14 (w := w) (g := g) (n := m) (os := os) dk) (by omega) (fun k hk => by cases hk; exact hg1)
    rw [hb.cell h1]; exact h2
   have h := order_any x.v y.v x.y y.y (sortWorldK enc14 8 w g 0 m dk os) x.may y.may (In.keep hle _ _ x.lies) (In.keep hle _ _ y.lies)
   rw [← enc14_agg x, ← enc14_agg y] at h
   refine Calls.mono h ?_
   rintro e w' ⟨rfl, hg⟩
   exact ⟨rfl, hg.grow⟩
  have hcon := AnyQ.slices_SortFunc Tryz.sortw 8 (fun w => by kernel_rfl) (fun w => by kernel_rfl) enc14 enc14_length (fun x v hv => by obtain ⟨_, _, _, _, _, _, _, _, _, _, h⟩ := enc14_form x; exact h v hv) cf14 swo14 60 #[] g 0 cp l.toArray w eg hcmp hH hg2 (by rw [hds]; omega)
  rw [hds] at hcon
  refine Calls.mono (show Calls Tryz.prog 59 _ _ _ from hcon) ?_
  rintro e w' ⟨rfl, d', n, os, hp, hs, rfl⟩
  have hgr := grown_sorted14 (w := w) (g := g) (n := n) (os := os) d'
  have hd's : d'.size = l.length := by rw [hp.1, hds]
  have hperm : d'.toList.Perm l := by
   have h7 := hp.2.2
   have e1 : d'.extract 0 l.length = d' := by rw [← hd's]; exact Array.extract_size
   have e2 : l.toArray.extract 0 l.length = l.toArray := by rw [← hds]; exact Array.extract_size
   rw [e1, e2] at h7
   exact h7
  have hH' : HoldsK enc14 8 (sortWorldK enc14 8 w g 0 n d' os) g 0 d' := holdsK_sortWorldK_c enc14 8 w g 0 _ d' n os hH hg2 (by rw [hd's, hds])
  obtain ⟨cur', hcur', hcs'⟩ := sorted_row14 (n := n) (os := os) d' hcur
  have hdl : d'.toList.length = l.length := by rw [Array.length_toList, hd's]
  refine ⟨rfl, (Below.refl B w).grown hgr (by omega) (fun k hk => by cases hk; exact hg1), d'.toList.map (·.v), d'.toList.flatMap enc14, hperm.map _, fun i j hj hij => ?_, ?_, items14_flat _⟩
  ·rw [List.length_map] at hj
   have h8 := hs i j (Nat.zero_le _) hij (by rw [hdl] at hj; exact hj)
   have hi' : i < d'.size := by rw [hd's, ← hdl]; omega
   have hj' : j < d'.size := by rw [hd's, ← hdl]; omega
   rw [getElem!_pos d' j hj', getElem!_pos d' i hi'] at h8
   unfold ltOf cf14 at h8
   rw [decide_eq_false_iff_not] at h8
   simpa using h8
  ·have h9 := holds_own14 (B := B) (cp := cp) (d := d'.toList) (by simpa using hH') hcur' (hcs'.trans hcs) hg1 (by rw [hdl]; exact hle.1) hle.2.1
   rw [hdl] at h9
   exact h9

def Seeking14 (d : List Vl) (ws : World) (v3 : Value) (wr : World) : Prop :=
 ∃ k : Nat, v3 = .int .i64 k ∧ 1 ≤ k ∧ (k ≤ d.length ∨ k = 1) ∧ (∀ (i : Nat) (h : i + 1 < d.length), i + 1 < k → (d[i]'(by omega)).same d[i + 1] = false) ∧ Below ws.heap.size ws wr

set_option linter.unusedVariables false in
set_option linter.unusedSimpArgs false in
set_option maxRecDepth 100000 in
set_option maxHeartbeats 2000000 in
theorem haveSame_any (l : List Vl) (A : Option Addr) (c : Nat) (w : World) (h : SlL w.cell? A l) (hm : ∀ v ∈ l, v.may = true) (hn : l.length ≤ 1000000) :
  Calls Tryz.prog 27 #[.slice A l.length c] w fun e w' => e = .returned (.bool (Ow.dup [] l)) ∧ Below w.heap.size w w' := by
 have HCL := Lib.hid (cloneV14_any l A c w h hn)
 have HM := Lib.hid hm
 clear h hm
 go_enter Tryz.func27, Tryz.ntmps27
 go_wp2_with fail
 refine HCL.out.mono ?_
 rintro e1 w1 ⟨flat, hf, A1, c1, rfl, hown, hb1⟩
 have hc1 : Cl.le w.cell? (w1.on (· < w.heap.size)) := fun p u hp => on_some.2 ⟨World.block_lt_of_cell? w p hp, (hb1.cell (World.block_lt_of_cell? w p hp)).trans hp⟩
 have HSO := Lib.hid (sortV14_any hc1 hown hf HM.out hn)
 have HB1 := Lib.hid hb1
 clear HCL hf hown hb1 hc1
 go_wp2_with fail
 refine HSO.out.mono ?_
 rintro e2 w2 ⟨rfl, hb2, d, flat', hp, ho, hown, hf⟩
 have hb := HB1.out.trans hb2
 have HSL := Lib.hid (show SlL w2.cell? A1 d from FlatV.sl (hf.keep (le_below hb)) (fun g j u _ hu => hu) hown)
 have HB := Lib.hid hb
 have HDM := Lib.hid (fun v (hv : v ∈ d) => HM.out v (hp.mem_iff.1 hv))
 have HDU := Lib.hid (Ow.dup_perm hp)
 have HON := Lib.hid (fun hs => Ow.dup_none HDM.out ho hs)
 have hdl : l.length = d.length := hp.length_eq.symm
 have hcl := own_le hown
 obtain ⟨hcl1, hcl2, _⟩ := hcl
 rw [hdl] at hcl1 hn ⊢
 unfold maxLen at hcl2
 clear HSO HB1 hp ho hown hf hb hb2 hdl HM
 go_wp2_with fail
 go_loopw [3] (Seeking14 d w2) (fun v _ => d.length - (intOf v).toNat)
 case atStart => exact ⟨1, rfl, Nat.le_refl _, .inr rfl, fun i h h1 => by omega, Below.refl _ _⟩
 case round =>
  obtain ⟨k, rfl, hk1, hk2, hk3, hbr⟩ := hrel
  obtain ⟨wz, hwz⟩ : ∃ W, W = wr := ⟨_, rfl⟩
  subst hwz
  have HK3 := Lib.hid hk3
  have HBR := Lib.hid hbr
  clear hk3 hbr
  by_cases hlt : k < d.length
  ·have hlt0 : k - 1 < d.length := by omega
   obtain ⟨g, o, y0, rfl, hy0, hc0⟩ := HSL.out (k - 1) _ (List.getElem?_eq_getElem hlt0)
   obtain ⟨g', o', y1, hgo, hy1, hc1⟩ := HSL.out k _ (List.getElem?_eq_getElem hlt)
   injection hgo with hgo
   injection hgo with hg0 ho0
   subst hg0 ho0
   obtain ⟨k1, b1, n1, g1, x1, s1, A2, l1, p1, B1, m1, d1, rfl⟩ := In.cells hy0
   obtain ⟨k2, b2, n2, g2, x2, s2, A3, l2, p2, B2, m2, d2, rfl⟩ := In.cells hy1
   have HC0 := Lib.hid (fun (W : World) (h : Below wz.heap.size wz W) => (hc0.keep (le_below (HBR.out.trans (h.mono HBR.out.size)))).eight)
   have HC1 := Lib.hid (fun (W : World) (h : Below wz.heap.size wz W) => (hc1.keep (le_below (HBR.out.trans (h.mono HBR.out.size)))).eight)
   have HSM := Lib.hid (fun (W : World) (h : Below wz.heap.size wz W) => same_any (d[k - 1]'hlt0) (d[k]'hlt) _ _ W (HDM.out _ (List.getElem_mem _)) (HDM.out _ (List.getElem_mem _)) (In.keep (le_below (HBR.out.trans (h.mono HBR.out.size))) _ _ hy0) (In.keep (le_below (HBR.out.trans (h.mono HBR.out.size))) _ _ hy1))
   have HFO := Lib.hid (fun (hs : (d[k - 1]'hlt0).same (d[k]'hlt) = true) => Ow.dup_found (d := d) (i := k - 1) (by omega) (by
    have e : k - 1 + 1 = k := by omega
    simp only [e]
    exact hs))
   have HNX := Lib.hid (fun (hs : (d[k - 1]'hlt0).same (d[k]'hlt) = false) (i : Nat) (h : i + 1 < d.length) (h2 : i + 1 < k + 1) => (show (d[i]'(by omega)).same d[i + 1] = false by
    by_cases e : i + 1 = k
    ·subst e
     exact hs
    ·exact HK3.out i h (by omega)))
   clear hy0 hy1 hc0 hc1
   generalize (d[k - 1]'hlt0).same (d[k]'hlt) = q at *
   have HKW := Lib.hid (show IntKind.i64.wrap ((k : Int) - 1) = ((k - 1 : Nat) : Int) by simp [IntKind.wrap, IntKind.bits, IntKind.signed]; omega)
   generalize k - 1 = k0 at *
   have hkl : (k0 : Int) < (d.length : Int) := by omega
   have hkl1 : (k : Int) < (d.length : Int) := by omega
   go_upto_region 6 with (fail)
   refine wp_region_held_drew (S := fun W9 => Below wz.heap.size wz W9) (by kernel_rfl) (show Below wz.heap.size wz wz.drew from below_drewN (Below.refl _ _) 1) (fun ht => ?_)
   generalize wz.drew = w8 at *
   refine wpAnyH_take (i := 0) (oi := ⟨some _, _, _, _, _, _⟩) (v := (.slice (some ⟨g, o, none⟩) d.length c1)) rfl (by kernel_rfl) (by kernel_rfl) (by kernel_rfl) (fun _ _ _ h => h) (Or.inl ⟨by rfl, ?_⟩) ht ?_
   ·intro W9 hSw
    go_simp
   try simp only [Act.put, List.setIfInBounds_toArray, List.set_cons_zero, List.set_cons_succ]
   refine wpAnyH_take (i := 1) (oi := ⟨some _, _, _, _, _, _⟩) (v := (.int .i64 k)) rfl (by kernel_rfl) (by kernel_rfl) (by kernel_rfl) (fun _ _ _ h => h) (Or.inl ⟨by rfl, ?_⟩) ht ?_
   ·intro W9 hSw
    go_simp
   try simp only [Act.put, List.setIfInBounds_toArray, List.set_cons_zero, List.set_cons_succ]
   refine wpAnyH_take (i := 2) (oi := ⟨some _, _, _, _, _, _⟩) (v := (.int .i64 k0)) rfl (by kernel_rfl) (by kernel_rfl) (by kernel_rfl) (fun _ _ _ h => h) (Or.inl ⟨by rfl, ?_⟩) ht ?_
   ·intro W9 hSw
    go_simp
    exact HKW.out
   try simp only [Act.put, List.setIfInBounds_toArray, List.set_cons_zero, List.set_cons_succ]
   refine wpAnyH_take (i := 3) (oi := ⟨some _, _, _, _, _, _⟩) (v := (.pointer (some ⟨g, o + k0 * 8, none⟩))) rfl (by kernel_rfl) (by kernel_rfl) (by kernel_rfl) (fun _ _ _ h => h) (Or.inl ⟨by rfl, ?_⟩) ht ?_
   ·intro W9 hSw
    go_simp
   try simp only [Act.put, List.setIfInBounds_toArray, List.set_cons_zero, List.set_cons_succ]
   refine wpAnyH_take (i := 4) (oi := ⟨some _, _, _, _, _, _⟩) (v := (.agg #[.int .i64 k1, .bool b1, .bool n1, .string ⟨g1.toArray⟩, .int .i64 x1, .string ⟨s1.toArray⟩, .slice A2 l1 p1, .slice B1 m1 d1])) rfl (by kernel_rfl) (by kernel_rfl) (by kernel_rfl) (fun _ _ _ h => h) (Or.inl ⟨by rfl, ?_⟩) ht ?_
   ·intro W9 hSw
    obtain ⟨z0, z1, z2, z3, z4, z5, z6, z7⟩ := HC0.out W9 hSw
    have zl := World.block_lt_of_cell? _ _ z0
    go_simp
   try simp only [Act.put, List.setIfInBounds_toArray, List.set_cons_zero, List.set_cons_succ]
   refine wpAnyH_take (i := 5) (oi := ⟨some _, _, _, _, _, _⟩) (v := (.slice (some ⟨g, o, none⟩) d.length c1)) rfl (by kernel_rfl) (by kernel_rfl) (by kernel_rfl) (fun _ _ _ h => h) (Or.inl ⟨by rfl, ?_⟩) ht ?_
   ·intro W9 hSw
    go_simp
   try simp only [Act.put, List.setIfInBounds_toArray, List.set_cons_zero, List.set_cons_succ]
   refine wpAnyH_take (i := 6) (oi := ⟨some _, _, _, _, _, _⟩) (v := (.int .i64 k)) rfl (by kernel_rfl) (by kernel_rfl) (by kernel_rfl) (fun _ _ _ h => h) (Or.inl ⟨by rfl, ?_⟩) ht ?_
   ·intro W9 hSw
    go_simp
   try simp only [Act.put, List.setIfInBounds_toArray, List.set_cons_zero, List.set_cons_succ]
   refine wpAnyH_take (i := 7) (oi := ⟨some _, _, _, _, _, _⟩) (v := (.pointer (some ⟨g, o + k * 8, none⟩))) rfl (by kernel_rfl) (by kernel_rfl) (by kernel_rfl) (fun _ _ _ h => h) (Or.inl ⟨by rfl, ?_⟩) ht ?_
   ·intro W9 hSw
    go_simp
   try simp only [Act.put, List.setIfInBounds_toArray, List.set_cons_zero, List.set_cons_succ]
   refine wpAnyH_take (i := 8) (oi := ⟨some _, _, _, _, _, _⟩) (v := (.agg #[.int .i64 k2, .bool b2, .bool n2, .string ⟨g2.toArray⟩, .int .i64 x2, .string ⟨s2.toArray⟩, .slice A3 l2 p2, .slice B2 m2 d2])) rfl (by kernel_rfl) (by kernel_rfl) (by kernel_rfl) (fun _ _ _ h => h) (Or.inl ⟨by rfl, ?_⟩) ht ?_
   ·intro W9 hSw
    obtain ⟨z0, z1, z2, z3, z4, z5, z6, z7⟩ := HC1.out W9 hSw
    have zl := World.block_lt_of_cell? _ _ z0
    go_simp
   try simp only [Act.put, List.setIfInBounds_toArray, List.set_cons_zero, List.set_cons_succ]
   refine wpAnyH_ready (rs := [9]) (by kernel_rfl) (by simp) ?_
   refine AllReadyH.cons (o := ⟨some _, _, _, _, _, _⟩) rfl (fun K hK => ?_) (AllReadyH.nil)
   go_simp
   refine (HSM.out _ ht).mono ?_
   rintro e9 w9 ⟨rfl, hb9⟩
   have hs := ht.trans (hb9.mono ht.size)
   clear ht hb9
   go_wp2_with fail
   refine hK.out _ _ hs (fun ht => ?_)
   clear hK K hs
   try simp only [Act.put, List.setIfInBounds_toArray, List.set_cons_zero, List.set_cons_succ]
   refine wpAnyH_done (by kernel_rfl) ?_ _
   have HW9 := Lib.hid (HBR.out.trans (ht.mono HBR.out.size))
   clear ht
   cases q with
   | true =>
    have HD := Lib.hid (HFO.out rfl)
    go_wp2_with fail
    go_ret
    exact ⟨by rw [← HDU.out, HD.out]; rfl, HB.out.trans (HW9.out.mono HB.out.size)⟩
   | false =>
    have HD := Lib.hid (HNX.out rfl)
    go_wp2_with fail
    go_roundw
    case rel => exact ⟨k + 1, by go_num, by omega, .inl (by omega), HD.out, HW9.out⟩
    case measure => simp [intOf]; omega
  ·have HD := Lib.hid (HON.out fun i h => HK3.out i h (by omega))
   go_wp2_with fail
   go_ret
   exact ⟨by rw [← HDU.out, HD.out]; rfl, HB.out.trans (HBR.out.mono HB.out.size)⟩

end Go.Proofs.YtolkfgikomminaaGreatDoor

namespace Go.Proofs.YtolkfgikomminaaGreatDoor
open Go.RowKit Js

theorem runes_from (s : List UInt8) : ∀ f pos, Lib.runeCountFrom ⟨s.toArray⟩ f pos = Ow.charsGo f (s.drop pos)
 | 0, _ => rfl
 | f + 1, pos => by
  unfold Lib.runeCountFrom
  have hsz : (⟨s.toArray⟩ : ByteArray).size = s.length := by rw [Lib.size_mk]
  by_cases h : pos < s.length
  ·rw [if_pos (by rw [hsz]; exact h)]
   have hd : Utf8.decode ⟨s.toArray⟩ pos = Lib.decodeL (s.drop pos) := (Lib.decodeL_drop ⟨s.toArray⟩ pos).symm
   have hl : 1 ≤ (s.drop pos).length := by rw [List.length_drop]; omega
   have hw : (Lib.decodeL (s.drop pos)).2 = max (St.utf8 (s.drop pos)) 1 := by
    rw [Lib.decodeL_N]
    have hg : ∀ k, ((s.drop pos).getD k 0).toNat = St.g (s.drop pos) k := fun k => rfl
    rw [hg 0, hg 1, hg 2, hg 3, St.decodeN_eq _ _ _ _ _ hl (St.g_lt _ 0) (St.g_lt _ 1) (St.g_lt _ 2) (St.g_lt _ 3)]
    rw [show St.width (s.drop pos).length (St.g (s.drop pos) 0) (St.g (s.drop pos) 1) (St.g (s.drop pos) 2) (St.g (s.drop pos) 3) = St.utf8 (s.drop pos) from rfl]
    split
    ·simp only; omega
    ·simp only; omega
   rw [hd, hw, runes_from s f]
   cases hc : s.drop pos with
   | nil => rw [hc] at hl; simp at hl
   | cons c r =>
    rw [show Ow.charsGo (f + 1) (c :: r) = Ow.charsGo f ((c :: r).drop (max (St.utf8 (c :: r)) 1)) + 1 from rfl, ← hc, List.drop_drop]
    omega
  ·rw [if_neg (by rw [hsz]; exact h), List.drop_eq_nil_of_le (by omega)]
   rfl
theorem runes_chars (s : List UInt8) : Lib.runeCount ⟨s.toArray⟩ = Ow.chars s := by
 unfold Lib.runeCount Ow.chars
 rw [runes_from, Lib.size_mk, List.drop_zero]

set_option linter.unusedVariables false in
set_option linter.unusedSimpArgs false in
set_option maxRecDepth 100000 in
set_option maxHeartbeats 2000000 in
theorem length14_any (s : List UInt8) (w : World) (hs : s.length ≤ 1000000) (ht : Tab w) : Calls Tryz.prog 25 #[.string ⟨s.toArray⟩] w fun e w' => e = .returned (numV (Nm.count (Ow.chars s))) ∧ Below w.heap.size w w' := by
 have HRC := Lib.hid (fun W => Tryz.utf8_RuneCountInString ⟨s.toArray⟩ W (by rw [Lib.size_mk]; omega))
 have hle := Ow.chars_le s
 rw [runes_chars] at HRC
 generalize Ow.chars s = ct at *
 have HOF := Lib.hid (fun W h => of_any (ct : Int) W (by omega) (by omega) h)
 have HT := Lib.hid ht
 have HZ := Lib.hid (Blk.new w 27 #[.bool false, .string ⟨#[]⟩, .int .i64 0])
 have HB := Lib.hid ((Below.refl w.heap.size w).alloc (Nat.le_refl _) (.cells #[.bool false, .string ⟨#[]⟩, .int .i64 0] 27))
 obtain ⟨N, hN⟩ : ∃ N, Nm.count (ct : Int) = N := ⟨_, rfl⟩
 rw [show (Nm.parse (Lib.itoa (ct : Int))).1 = N from hN] at HOF
 rw [hN]
 clear ht hN
 obtain ⟨nn, nd, nx⟩ := N
 unfold numV at HOF
 go_enter Tryz.func25, Tryz.ntmps25
 go_wp2_with fail
 refine (HRC.out _).mono ?_
 rintro e1 w1 ⟨rfl, pos, rfl⟩
 have HB1 := Lib.hid (show Below w.heap.size w ((w.alloc (.cells #[.bool false, .string ⟨#[]⟩, .int .i64 0] 27)).iter ⟨s.toArray⟩ pos) from HB.out.alloc (by simp) _)
 have HZ1 := Lib.hid (show Blk ((w.alloc (.cells #[.bool false, .string ⟨#[]⟩, .int .i64 0] 27)).iter ⟨s.toArray⟩ pos) w.heap.size 27 #[.bool false, .string ⟨#[]⟩, .int .i64 0] from HZ.out.alloc _)
 generalize (w.alloc (.cells #[.bool false, .string ⟨#[]⟩, .int .i64 0] 27)).iter ⟨s.toArray⟩ pos = w1 at *
 go_wp2_with fail
 refine (HOF.out _ (HT.out.keep HB1.out)).mono ?_
 rintro e2 w2 ⟨rfl, hb2⟩
 have HZ2 := Lib.hid (HZ1.out.on hb2)
 have HB2 := Lib.hid (HB1.out.trans (hb2.mono HB1.out.size))
 clear hb2
 obtain ⟨z0, z1, z2⟩ : w2.cell? ⟨w.heap.size, 0, none⟩ = some (.bool false) ∧ w2.cell? ⟨w.heap.size, 1, none⟩ = some (.string ⟨#[]⟩) ∧ w2.cell? ⟨w.heap.size, 2, none⟩ = some (.int .i64 0) := ⟨HZ2.out.cell 0, HZ2.out.cell 1, HZ2.out.cell 2⟩
 have zf := HZ2.out.frozen
 have zl := HZ2.out.lt
 go_wp2_with fail
 have HF := Lib.hid (show Blk (((w2.setCell ⟨w.heap.size, 0, none⟩ (.bool nn)).setCell ⟨w.heap.size, 1, none⟩ (.string ⟨nd.toArray⟩)).setCell ⟨w.heap.size, 2, none⟩ (.int .i64 nx)) w.heap.size 27 [.bool nn, .string ⟨nd.toArray⟩, .int .i64 nx].toArray from (((show Blk w2 w.heap.size 27 [.bool false, .string ⟨#[]⟩, .int .i64 0].toArray from HZ2.out).setL 0 _).setL 1 _).setL 2 _)
 refine bodyPost_ret (results_row1 (l := [_, _, _]) rfl _ _ _ rfl HF.out Tryz.underlying27 rfl (by kernel_rfl)) rfl ?_
 exact ⟨rfl, ((HB2.out.setCell (Nat.le_refl _) _).setCell (Nat.le_refl _) _).setCell (Nat.le_refl _) _⟩

set_option linter.unusedVariables false in
set_option linter.unusedSimpArgs false in
set_option maxRecDepth 100000 in
set_option maxHeartbeats 2000000 in
theorem isOfType_any (v : Vl) (nm : List UInt8) (x : Value) (w : World) (hm : v.may = true) (hx : v.In w.cell? x) : Calls Tryz.prog 48 #[x, .string ⟨nm.toArray⟩] w fun e w' => e = .returned (.bool (Ow.is v nm)) ∧ Below w.heap.size w w' := by
 obtain ⟨k, b, n, s, l, m⟩ := v
 obtain ⟨A, e, B, d, rfl, q1, q2, q3, q4, q5, q6⟩ := In.form hx
 have hk := (may_own hm).1
 have hk2 := (may_own hm).2.1
 have hn := (may_own hm).2.2.2.2.2.2.2.1
 have HB := Lib.hid ((Below.refl w.heap.size w).alloc (Nat.le_refl _) (.cells #[.int .i64 k, .bool b, .bool n.neg, .string ⟨n.digits.toArray⟩, .int .i64 n.exp, .string ⟨s.toArray⟩, .slice A l.length e, .slice B m.length d] 31))
 have HWC := Lib.hid (fun W => whole_any n.neg n.digits n.exp W)
 have HWH := Lib.hid (show Ow.whole n = decide (0 ≤ n.exp) by
  unfold Ow.whole
  unfold mayNum at hn
  by_cases h : n.digits = []
  ·rw [if_pos h] at hn
   simp only [Bool.and_eq_true, decide_eq_true_eq] at hn
   rw [h, hn.2]; rfl
  ·cases hd : n.digits with
   | nil => exact absurd hd h
   | cons a t => rfl)
 clear hx hm q1 q2 q3 q4 q5 q6 hn
 have hk6 : k = 0 ∨ k = 1 ∨ k = 2 ∨ k = 3 ∨ k = 4 ∨ k = 5 := by omega
 clear hk hk2
 by_cases h0 : nm = [110, 117, 108, 108]
 ·have HNM := Lib.hid h0
  have e0 : (nm == [110, 117, 108, 108]) = true := by rw [h0]; rfl
  have HIS := Lib.hid (show Ow.is (.mk k b n s l m) nm = (k == 0) by rw [h0]; rcases hk6 with rfl | rfl | rfl | rfl | rfl | rfl <;> rfl)
  clear h0 hk6
  go_enter Tryz.func48, Tryz.ntmps48
  go_wp2_with fail
  go_ret
  exact ⟨by rw [HIS.out]; rfl, HB.out⟩
 by_cases h1 : nm = [98, 111, 111, 108, 101, 97, 110]
 ·have HNM := Lib.hid h1
  have e0 : (nm == [110, 117, 108, 108]) = false := by rw [h1]; rfl
  have e1 : (nm == [98, 111, 111, 108, 101, 97, 110]) = true := by rw [h1]; rfl
  have HIS := Lib.hid (show Ow.is (.mk k b n s l m) nm = (k == 1) by rw [h1]; rcases hk6 with rfl | rfl | rfl | rfl | rfl | rfl <;> rfl)
  clear h1 hk6
  go_enter Tryz.func48, Tryz.ntmps48
  go_wp2_with fail
  go_ret
  exact ⟨by rw [HIS.out]; rfl, HB.out⟩
 by_cases h2 : nm = [110, 117, 109, 98, 101, 114]
 ·have HNM := Lib.hid h2
  have e0 : (nm == [110, 117, 108, 108]) = false := by rw [h2]; rfl
  have e1 : (nm == [98, 111, 111, 108, 101, 97, 110]) = false := by rw [h2]; rfl
  have e2 : (nm == [110, 117, 109, 98, 101, 114]) = true := by rw [h2]; rfl
  have HIS := Lib.hid (show Ow.is (.mk k b n s l m) nm = (k == 2) by rw [h2]; rcases hk6 with rfl | rfl | rfl | rfl | rfl | rfl <;> rfl)
  clear h2 hk6
  go_enter Tryz.func48, Tryz.ntmps48
  go_wp2_with fail
  go_ret
  exact ⟨by rw [HIS.out]; rfl, HB.out⟩
 by_cases h3 : nm = [105, 110, 116, 101, 103, 101, 114]
 ·have HNM := Lib.hid h3
  have e0 : (nm == [110, 117, 108, 108]) = false := by rw [h3]; rfl
  have e1 : (nm == [98, 111, 111, 108, 101, 97, 110]) = false := by rw [h3]; rfl
  have e2 : (nm == [110, 117, 109, 98, 101, 114]) = false := by rw [h3]; rfl
  have e3 : (nm == [105, 110, 116, 101, 103, 101, 114]) = true := by rw [h3]; rfl
  by_cases hk2 : k = 2
  ·subst hk2
   have HIS := Lib.hid (show Ow.is (.mk 2 b n s l m) nm = decide (0 ≤ n.exp) by rw [h3, ← HWH.out]; rfl)
   clear h3 hk6
   go_enter Tryz.func48, Tryz.ntmps48
   go_wp2_with fail
   refine (HWC.out _).mono ?_
   rintro e8 w8 ⟨rfl, hb8⟩
   have HB8 := Lib.hid (HB.out.trans (hb8.mono HB.out.size))
   clear hb8
   generalize decide (0 ≤ n.exp) = q at *
   go_wp2_with fail
   go_ret
   exact ⟨by rw [HIS.out]; rfl, HB8.out⟩
  ·have HIS := Lib.hid (show Ow.is (.mk k b n s l m) nm = false by rw [h3]; rcases hk6 with rfl | rfl | rfl | rfl | rfl | rfl <;> first | rfl | exact absurd rfl hk2)
   have e9 : (k == 2) = false := by simpa using hk2
   clear h3 hk6 hk2
   go_enter Tryz.func48, Tryz.ntmps48
   go_wp2_with fail
   go_ret
   exact ⟨by rw [HIS.out]; rfl, HB.out⟩
 by_cases h4 : nm = [115, 116, 114, 105, 110, 103]
 ·have HNM := Lib.hid h4
  have e0 : (nm == [110, 117, 108, 108]) = false := by rw [h4]; rfl
  have e1 : (nm == [98, 111, 111, 108, 101, 97, 110]) = false := by rw [h4]; rfl
  have e2 : (nm == [110, 117, 109, 98, 101, 114]) = false := by rw [h4]; rfl
  have e3 : (nm == [105, 110, 116, 101, 103, 101, 114]) = false := by rw [h4]; rfl
  have e4 : (nm == [115, 116, 114, 105, 110, 103]) = true := by rw [h4]; rfl
  have HIS := Lib.hid (show Ow.is (.mk k b n s l m) nm = (k == 3) by rw [h4]; rcases hk6 with rfl | rfl | rfl | rfl | rfl | rfl <;> rfl)
  clear h4 hk6
  go_enter Tryz.func48, Tryz.ntmps48
  go_wp2_with fail
  go_ret
  exact ⟨by rw [HIS.out]; rfl, HB.out⟩
 by_cases h5 : nm = [97, 114, 114, 97, 121]
 ·have HNM := Lib.hid h5
  have e0 : (nm == [110, 117, 108, 108]) = false := by rw [h5]; rfl
  have e1 : (nm == [98, 111, 111, 108, 101, 97, 110]) = false := by rw [h5]; rfl
  have e2 : (nm == [110, 117, 109, 98, 101, 114]) = false := by rw [h5]; rfl
  have e3 : (nm == [105, 110, 116, 101, 103, 101, 114]) = false := by rw [h5]; rfl
  have e4 : (nm == [115, 116, 114, 105, 110, 103]) = false := by rw [h5]; rfl
  have e5 : (nm == [97, 114, 114, 97, 121]) = true := by rw [h5]; rfl
  have HIS := Lib.hid (show Ow.is (.mk k b n s l m) nm = (k == 4) by rw [h5]; rcases hk6 with rfl | rfl | rfl | rfl | rfl | rfl <;> rfl)
  clear h5 hk6
  go_enter Tryz.func48, Tryz.ntmps48
  go_wp2_with fail
  go_ret
  exact ⟨by rw [HIS.out]; rfl, HB.out⟩
 by_cases h6 : nm = [111, 98, 106, 101, 99, 116]
 ·have HNM := Lib.hid h6
  have e0 : (nm == [110, 117, 108, 108]) = false := by rw [h6]; rfl
  have e1 : (nm == [98, 111, 111, 108, 101, 97, 110]) = false := by rw [h6]; rfl
  have e2 : (nm == [110, 117, 109, 98, 101, 114]) = false := by rw [h6]; rfl
  have e3 : (nm == [105, 110, 116, 101, 103, 101, 114]) = false := by rw [h6]; rfl
  have e4 : (nm == [115, 116, 114, 105, 110, 103]) = false := by rw [h6]; rfl
  have e5 : (nm == [97, 114, 114, 97, 121]) = false := by rw [h6]; rfl
  have e6 : (nm == [111, 98, 106, 101, 99, 116]) = true := by rw [h6]; rfl
  have HIS := Lib.hid (show Ow.is (.mk k b n s l m) nm = (k == 5) by rw [h6]; rcases hk6 with rfl | rfl | rfl | rfl | rfl | rfl <;> rfl)
  clear h6 hk6
  go_enter Tryz.func48, Tryz.ntmps48
  go_wp2_with fail
  go_ret
  exact ⟨by rw [HIS.out]; rfl, HB.out⟩
 have e0 : (nm == [110, 117, 108, 108]) = false := by rw [beq_eq_false_iff_ne]; exact h0
 have e1 : (nm == [98, 111, 111, 108, 101, 97, 110]) = false := by rw [beq_eq_false_iff_ne]; exact h1
 have e2 : (nm == [110, 117, 109, 98, 101, 114]) = false := by rw [beq_eq_false_iff_ne]; exact h2
 have e3 : (nm == [105, 110, 116, 101, 103, 101, 114]) = false := by rw [beq_eq_false_iff_ne]; exact h3
 have e4 : (nm == [115, 116, 114, 105, 110, 103]) = false := by rw [beq_eq_false_iff_ne]; exact h4
 have e5 : (nm == [97, 114, 114, 97, 121]) = false := by rw [beq_eq_false_iff_ne]; exact h5
 have e6 : (nm == [111, 98, 106, 101, 99, 116]) = false := by rw [beq_eq_false_iff_ne]; exact h6
 have HIS := Lib.hid (show Ow.is (.mk k b n s l m) nm = false by
  unfold Ow.is
  rw [if_neg (show ¬ nm = Ow.kInteger from h3), beq_eq_false_iff_ne]
  rcases hk6 with rfl | rfl | rfl | rfl | rfl | rfl
  ·exact fun q => h0 q.symm
  ·exact fun q => h1 q.symm
  ·exact fun q => h2 q.symm
  ·exact fun q => h4 q.symm
  ·exact fun q => h5 q.symm
  ·exact fun q => h6 q.symm)
 clear h0 h1 h2 h3 h4 h5 h6 hk6
 go_enter Tryz.func48, Tryz.ntmps48
 go_wp2_with fail
 go_ret
 exact ⟨by rw [HIS.out]; rfl, HB.out⟩

def Noned (l : List Vl) (f : Vl → Bool) (w : World) (i : Value) (wr : World) : Prop := ∃ j : Nat, j ≤ l.length ∧ i = .int .i64 j ∧ (∀ (q : Nat) (h : q < l.length), q < j → f l[q] = false) ∧ Below w.heap.size w wr
theorem noned_all {l : List Vl} {f : Vl → Bool} (h : ∀ (q : Nat) (h : q < l.length), q < l.length → f l[q] = false) : l.any f = false := by
 rw [List.any_eq_false]
 intro x hx
 obtain ⟨q, hq, rfl⟩ := List.getElem_of_mem hx
 rw [h q hq hq]
 decide
theorem noned_one {l : List Vl} {f : Vl → Bool} {j : Nat} (hj : j < l.length) (h : f l[j] = true) : l.any f = true := List.any_eq_true.2 ⟨_, List.getElem_mem hj, h⟩
theorem noned_next {l : List Vl} {f : Vl → Bool} {j : Nat} (hj : j < l.length) (h : ∀ (q : Nat) (h : q < l.length), q < j → f l[q] = false) (hf : f l[j] = false) (q : Nat) (hq : q < l.length) (hl : q < j + 1) : f l[q] = false := by
 by_cases e : q = j
 ·subst e; exact hf
 ·exact h q hq (by omega)

set_option linter.unusedVariables false in
set_option linter.unusedSimpArgs false in
set_option maxRecDepth 100000 in
set_option maxHeartbeats 2000000 in
theorem isAmong_any (v : Vl) (l : List Vl) (x : Value) (A : Option Addr) (c : Nat) (w : World) (hm : v.may = true) (hmt : ∀ u ∈ l, u.may = true) (hx : v.In w.cell? x) (hl : SlL w.cell? A l) (hc1 : l.length ≤ c) (hc2 : c ≤ maxLen) :
  Calls Tryz.prog 22 #[x, .slice A l.length c] w fun e w' => e = .returned (.bool (Ow.among l v)) ∧ Below w.heap.size w w' := by
 unfold maxLen at hc2
 obtain ⟨v_1, v_2, v_3, v_4, v_5, v_6, v_7, v_8, v_9, v_a, v_b, v_c, rfl⟩ := In.cells hx
 have HV := Lib.hid hx
 have HL := Lib.hid hl
 have HMT := Lib.hid hmt
 have HM := Lib.hid hm
 have HBS := Lib.hid ((Below.refl w.heap.size w).alloc (Nat.le_refl _) (.cells #[.int .i64 v_1, .bool v_2, .bool v_3, .string ⟨v_4.toArray⟩, .int .i64 v_5, .string ⟨v_6.toArray⟩, .slice v_7 v_8 v_9, .slice v_a v_b v_c] 31))
 have HBX := Lib.hid (Blk.new w 31 #[.int .i64 v_1, .bool v_2, .bool v_3, .string ⟨v_4.toArray⟩, .int .i64 v_5, .string ⟨v_6.toArray⟩, .slice v_7 v_8 v_9, .slice v_a v_b v_c])
 obtain ⟨f, hf⟩ : ∃ f : Vl → Bool, f = fun u => v.same u := ⟨_, rfl⟩
 have HF := Lib.hid hf
 have HRES := Lib.hid (show Ow.among l v = l.any f by
  rw [hf]
  unfold Ow.among
  congr 1
  funext u
  exact same_comm u v)
 clear hf
 clear hx hl hm hmt
 go_enter Tryz.func22, Tryz.ntmps22
 go_wp2_with fail
 generalize (w.alloc (.cells #[.int .i64 v_1, .bool v_2, .bool v_3, .string ⟨v_4.toArray⟩, .int .i64 v_5, .string ⟨v_6.toArray⟩, .slice v_7 v_8 v_9, .slice v_a v_b v_c] 31)) = ws at *
 go_loopw [9] (Noned l f ws) (fun i _ => l.length - (intOf i).toNat)
 case atStart => exact ⟨0, Nat.zero_le _, rfl, fun q h h1 => by omega, Below.refl _ _⟩
 case round =>
  obtain ⟨j, hj, rfl, hno, hbr⟩ := hrel
  obtain ⟨wz, hwz⟩ : ∃ W, W = wr := ⟨_, rfl⟩
  subst hwz
  have HNO := Lib.hid hno
  have HBR := Lib.hid hbr
  clear hno hbr
  have HBW := Lib.hid (HBS.out.trans (HBR.out.mono HBS.out.size))
  obtain ⟨a0, a1, a2, a3, a4, a5, a6, a7⟩ := (HBX.out.on HBR.out).eight
  have al := (HBX.out.on HBR.out).lt
  by_cases hlt : j < l.length
  ·obtain ⟨g, o, y, rfl, hy, hc⟩ := HL.out j _ (List.getElem?_eq_getElem hlt)
   have HMX := Lib.hid (HMT.out _ (List.getElem_mem hlt))
   have HNX := Lib.hid (fun h q hq hl => noned_next (f := f) hlt HNO.out h q hq hl)
   have HON := Lib.hid (fun h => noned_one (f := f) hlt h)
   generalize (l[j]'hlt) = X at *
   obtain ⟨k, b, n, s, l1, m1⟩ := X
   obtain ⟨A1, e1, B1, d1, rfl, p1, p2, p3, p4, p5, p6⟩ := In.form hy
   obtain ⟨c0, c1, c2, c3, c4, c5, c6, c7⟩ := (hc.keep (le_below HBW.out)).eight
   have cl := World.block_lt_of_cell? _ _ c0
   have HY := Lib.hid (In.keep (le_below (HBW.out.alloc HBW.out.size (.cells #[.int .i64 k, .bool b, .bool n.neg, .string ⟨n.digits.toArray⟩, .int .i64 n.exp, .string ⟨s.toArray⟩, .slice A1 l1.length e1, .slice B1 m1.length d1] 31))) _ _ hy)
   have HV1 := Lib.hid (In.keep (le_below (HBW.out.alloc HBW.out.size (.cells #[.int .i64 k, .bool b, .bool n.neg, .string ⟨n.digits.toArray⟩, .int .i64 n.exp, .string ⟨s.toArray⟩, .slice A1 l1.length e1, .slice B1 m1.length d1] 31))) _ _ HV.out)
   have HB1 := Lib.hid (HBR.out.alloc HBR.out.size (.cells #[.int .i64 k, .bool b, .bool n.neg, .string ⟨n.digits.toArray⟩, .int .i64 n.exp, .string ⟨s.toArray⟩, .slice A1 l1.length e1, .slice B1 m1.length d1] 31))
   clear hy hc p5 p6
   have HSM := Lib.hid (fun (W : World) h1 h2 => same_any v (.mk k b n s l1 m1) (.agg #[.int .i64 v_1, .bool v_2, .bool v_3, .string ⟨v_4.toArray⟩, .int .i64 v_5, .string ⟨v_6.toArray⟩, .slice v_7 v_8 v_9, .slice v_a v_b v_c]) (.agg #[.int .i64 k, .bool b, .bool n.neg, .string ⟨n.digits.toArray⟩, .int .i64 n.exp, .string ⟨s.toArray⟩, .slice A1 l1.length e1, .slice B1 m1.length d1]) W HM.out HMX.out h1 h2)
   have hfx : f (.mk k b n s l1 m1) = v.same (.mk k b n s l1 m1) := by rw [HF.out]
   rw [hfx] at HNX HON
   clear hfx
   generalize v.same (.mk k b n s l1 m1) = q at *
   go_wp2_with fail
   refine (HSM.out _ HV1.out HY.out).mono ?_
   rintro e2 w2 ⟨rfl, hb2⟩
   have HB2 := Lib.hid (HB1.out.trans (hb2.mono HB1.out.size))
   clear hb2
   cases q with
   | true =>
    have HD := Lib.hid (HON.out rfl)
    go_wp2_with fail
    go_ret
    exact ⟨by rw [HRES.out, HD.out]; rfl, HBS.out.trans (HB2.out.mono HBS.out.size)⟩
   | false =>
    have HD := Lib.hid (HNX.out rfl)
    go_wp2_with fail
    go_roundw
    case rel => exact ⟨j + 1, by omega, by go_num, HD.out, HB2.out⟩
    case measure => simp [intOf]; omega
  ·obtain rfl : j = l.length := by omega
   have HD := Lib.hid (noned_all HNO.out)
   go_wp2_with fail
   go_ret
   exact ⟨by rw [HRES.out, HD.out]; rfl, HBW.out⟩

set_option linter.unusedVariables false in
set_option linter.unusedSimpArgs false in
set_option maxRecDepth 100000 in
set_option maxHeartbeats 2000000 in
theorem isOfTypes_any (v t : Vl) (x xt : Value) (w : World) (hm : v.may = true) (hmt : t.may = true) (hx : v.In w.cell? x) (hxt : t.In w.cell? xt) :
  Calls Tryz.prog 21 #[x, xt] w fun e w' => e = .returned (.bool ((Ow.types t).any fun u => Ow.is v (Sh.strOf u))) ∧ Below w.heap.size w w' := by
 obtain ⟨v_1, v_2, v_3, v_4, v_5, v_6, v_7, v_8, v_9, v_a, v_b, v_c, rfl⟩ := In.cells hx
 obtain ⟨k, b, n, s, l, m⟩ := t
 obtain ⟨A, e, B, d, rfl, q1, q2, q3, q4, q5, q6⟩ := In.form hxt
 unfold maxLen at q2 q4
 have hk0 := (may_own hmt).1
 have hk5 := (may_own hmt).2.1
 have hs3 := (may_own hmt).2.2.2.2.1
 have hl4 := (may_own hmt).2.2.2.2.2.1
 have hv0 := hm
 have HV := Lib.hid hx
 have HL := Lib.hid (show SlL w.cell? A l from q5)
 have HMT := Lib.hid ((mayL_iff l).1 (may_own hmt).2.2.2.2.2.2.2.2.2.1)
 have HM := Lib.hid hm
 have HBS := Lib.hid (((Below.refl w.heap.size w).alloc (Nat.le_refl _) (.cells #[.int .i64 v_1, .bool v_2, .bool v_3, .string ⟨v_4.toArray⟩, .int .i64 v_5, .string ⟨v_6.toArray⟩, .slice v_7 v_8 v_9, .slice v_a v_b v_c] 31)).alloc (by simp) (.cells #[.int .i64 k, .bool b, .bool n.neg, .string ⟨n.digits.toArray⟩, .int .i64 n.exp, .string ⟨s.toArray⟩, .slice A l.length e, .slice B m.length d] 31))
 have HBX := Lib.hid ((Blk.new w 31 #[.int .i64 v_1, .bool v_2, .bool v_3, .string ⟨v_4.toArray⟩, .int .i64 v_5, .string ⟨v_6.toArray⟩, .slice v_7 v_8 v_9, .slice v_a v_b v_c]).alloc (.cells #[.int .i64 k, .bool b, .bool n.neg, .string ⟨n.digits.toArray⟩, .int .i64 n.exp, .string ⟨s.toArray⟩, .slice A l.length e, .slice B m.length d] 31))
 have HV2 := Lib.hid (In.keep (le_below HBS.out) _ _ hx)
 clear hx hxt hm hmt q5 q6
 by_cases hk : k = 4
 ·subst hk
  obtain ⟨f, hf⟩ : ∃ f : Vl → Bool, f = fun u => Ow.is v (Sh.strOf u) := ⟨_, rfl⟩
  have HF := Lib.hid hf
  have HRES := Lib.hid (show (Ow.types (.mk 4 b n s l m)).any (fun u => Ow.is v (Sh.strOf u)) = l.any f by rw [hf]; rfl)
  clear hf
  clear hs3 hl4 hk0 hk5 hv0
  go_enter Tryz.func21, Tryz.ntmps21
  go_wp2_with fail
  generalize ((w.alloc (.cells #[.int .i64 v_1, .bool v_2, .bool v_3, .string ⟨v_4.toArray⟩, .int .i64 v_5, .string ⟨v_6.toArray⟩, .slice v_7 v_8 v_9, .slice v_a v_b v_c] 31)).alloc (.cells #[.int .i64 4, .bool b, .bool n.neg, .string ⟨n.digits.toArray⟩, .int .i64 n.exp, .string ⟨s.toArray⟩, .slice A l.length e, .slice B m.length d] 31)) = ws at *
  go_loopw [17] (Noned l f ws) (fun i _ => l.length - (intOf i).toNat)
  case atStart => exact ⟨0, Nat.zero_le _, rfl, fun q h h1 => by omega, Below.refl _ _⟩
  case round =>
   obtain ⟨j, hj, rfl, hno, hbr⟩ := hrel
   obtain ⟨wz, hwz⟩ : ∃ W, W = wr := ⟨_, rfl⟩
   subst hwz
   have HNO := Lib.hid hno
   have HBR := Lib.hid hbr
   clear hno hbr
   have HBW := Lib.hid (HBS.out.trans (HBR.out.mono HBS.out.size))
   obtain ⟨a0, a1, a2, a3, a4, a5, a6, a7⟩ := (HBX.out.on HBR.out).eight
   have al := (HBX.out.on HBR.out).lt
   by_cases hlt : j < l.length
   ·obtain ⟨g, o, y, rfl, hy, hc⟩ := HL.out j _ (List.getElem?_eq_getElem hlt)
    have HMX := Lib.hid (HMT.out _ (List.getElem_mem hlt))
    have HNX := Lib.hid (fun h q hq hl => noned_next (f := f) hlt HNO.out h q hq hl)
    have HON := Lib.hid (fun h => noned_one (f := f) hlt h)
    generalize (l[j]'hlt) = X at *
    obtain ⟨k, b, n, s, l1, m1⟩ := X
    obtain ⟨A1, e1, B1, d1, rfl, p1, p2, p3, p4, p5, p6⟩ := In.form hy
    obtain ⟨c0, c1, c2, c3, c4, c5, c6, c7⟩ := (hc.keep (le_below HBW.out)).eight
    have cl := World.block_lt_of_cell? _ _ c0
    have HY := Lib.hid (In.keep (le_below (HBW.out.alloc HBW.out.size (.cells #[.int .i64 k, .bool b, .bool n.neg, .string ⟨n.digits.toArray⟩, .int .i64 n.exp, .string ⟨s.toArray⟩, .slice A1 l1.length e1, .slice B1 m1.length d1] 31))) _ _ hy)
    have HV1 := Lib.hid (In.keep (le_below (HBW.out.alloc HBW.out.size (.cells #[.int .i64 k, .bool b, .bool n.neg, .string ⟨n.digits.toArray⟩, .int .i64 n.exp, .string ⟨s.toArray⟩, .slice A1 l1.length e1, .slice B1 m1.length d1] 31))) _ _ HV.out)
    have HB1 := Lib.hid (HBR.out.alloc HBR.out.size (.cells #[.int .i64 k, .bool b, .bool n.neg, .string ⟨n.digits.toArray⟩, .int .i64 n.exp, .string ⟨s.toArray⟩, .slice A1 l1.length e1, .slice B1 m1.length d1] 31))
    clear hy hc p5 p6
    have HSM := Lib.hid (fun (W : World) h1 => isOfType_any v s (.agg #[.int .i64 v_1, .bool v_2, .bool v_3, .string ⟨v_4.toArray⟩, .int .i64 v_5, .string ⟨v_6.toArray⟩, .slice v_7 v_8 v_9, .slice v_a v_b v_c]) W HM.out h1)
    have hfx : f (.mk k b n s l1 m1) = Ow.is v s := by rw [HF.out]; rfl
    rw [hfx] at HNX HON
    clear hfx
    generalize Ow.is v s = q at *
    go_wp2_with fail
    refine (HSM.out _ HV1.out).mono ?_
    rintro e2 w2 ⟨rfl, hb2⟩
    have HB2 := Lib.hid (HB1.out.trans (hb2.mono HB1.out.size))
    clear hb2
    cases q with
    | true =>
     have HD := Lib.hid (HON.out rfl)
     go_wp2_with fail
     go_ret
     exact ⟨by rw [HRES.out, HD.out]; rfl, HBS.out.trans (HB2.out.mono HBS.out.size)⟩
    | false =>
     have HD := Lib.hid (HNX.out rfl)
     go_wp2_with fail
     go_roundw
     case rel => exact ⟨j + 1, by omega, by go_num, HD.out, HB2.out⟩
     case measure => simp [intOf]; omega
   ·obtain rfl : j = l.length := by omega
    have HD := Lib.hid (noned_all HNO.out)
    go_wp2_with fail
    go_ret
    exact ⟨by rw [HRES.out, HD.out]; rfl, HBW.out⟩
 ·have t1 : (k == 4) = false := by simpa using hk
  have t2 : (k != 4) = true := by simpa using hk
  have HSM := Lib.hid (fun (W : World) h1 => isOfType_any v s (.agg #[.int .i64 v_1, .bool v_2, .bool v_3, .string ⟨v_4.toArray⟩, .int .i64 v_5, .string ⟨v_6.toArray⟩, .slice v_7 v_8 v_9, .slice v_a v_b v_c]) W HM.out h1)
  have HRES := Lib.hid (show (Ow.types (.mk k b n s l m)).any (fun u => Ow.is v (Sh.strOf u)) = Ow.is v s by
   by_cases h3 : k = 3
   ·subst h3
    show ([Vl.mk 3 b n s l m].any fun u => Ow.is v (Sh.strOf u)) = _
    simp [Sh.strOf]
   ·rw [hs3 h3]
    have hl0 := hl4 hk
    subst hl0
    have e1 : Ow.types (.mk k b n s [] m) = [] := by
     unfold Ow.types
     rw [if_neg (by simpa [Sh.kindOf] using h3)]
     rfl
    rw [hs3 h3] at e1
    rw [e1]
    obtain ⟨vk, vb, vn, vs, vl, vm⟩ := v
    have h0 := (may_own hv0).1
    have h5 := (may_own hv0).2.1
    have h6 : vk = 0 ∨ vk = 1 ∨ vk = 2 ∨ vk = 3 ∨ vk = 4 ∨ vk = 5 := by omega
    rcases h6 with rfl | rfl | rfl | rfl | rfl | rfl <;> rfl)
  clear hk hs3 hl4 hk0 hk5 hv0
  generalize Ow.is v s = q at *
  go_enter Tryz.func21, Tryz.ntmps21
  go_wp2_with fail
  refine (HSM.out _ HV2.out).mono ?_
  rintro e2 w2 ⟨rfl, hb2⟩
  have HB2 := Lib.hid (HBS.out.trans (hb2.mono HBS.out.size))
  clear hb2
  go_wp2_with fail
  go_ret
  exact ⟨by rw [HRES.out]; rfl, HB2.out⟩

set_option linter.unusedVariables false in
set_option linter.unusedSimpArgs false in
set_option maxRecDepth 100000 in
set_option maxHeartbeats 2000000 in
theorem lacks_any (v : Vl) (l : List Vl) (x : Value) (A : Option Addr) (c : Nat) (w : World) (hm : v.may = true) (hsz : v.size ≤ 1000000) (hmt : ∀ u ∈ l, u.may = true) (hx : v.In w.cell? x) (hl : SlL w.cell? A l) (hc1 : l.length ≤ c) (hc2 : c ≤ maxLen) :
  Calls Tryz.prog 28 #[x, .slice A l.length c] w fun e w' => e = .returned (.bool (l.any fun u => (v.find (Sh.strOf u)).isNone)) ∧ Below w.heap.size w w' := by
 unfold maxLen at hc2
 obtain ⟨v_1, v_2, v_3, v_4, v_5, v_6, v_7, v_8, v_9, v_a, v_b, v_c, rfl⟩ := In.cells hx
 have HV := Lib.hid hx
 have HL := Lib.hid hl
 have HMT := Lib.hid hmt
 have HFI := Lib.hid (fun (s : List UInt8) (W : World) h1 => find_any v s (.agg #[.int .i64 v_1, .bool v_2, .bool v_3, .string ⟨v_4.toArray⟩, .int .i64 v_5, .string ⟨v_6.toArray⟩, .slice v_7 v_8 v_9, .slice v_a v_b v_c]) W hm (by omega) h1)
 have HBS := Lib.hid ((Below.refl w.heap.size w).alloc (Nat.le_refl _) (.cells #[.int .i64 v_1, .bool v_2, .bool v_3, .string ⟨v_4.toArray⟩, .int .i64 v_5, .string ⟨v_6.toArray⟩, .slice v_7 v_8 v_9, .slice v_a v_b v_c] 31))
 have HBX := Lib.hid (Blk.new w 31 #[.int .i64 v_1, .bool v_2, .bool v_3, .string ⟨v_4.toArray⟩, .int .i64 v_5, .string ⟨v_6.toArray⟩, .slice v_7 v_8 v_9, .slice v_a v_b v_c])
 obtain ⟨f, hf⟩ : ∃ f : Vl → Bool, f = fun u => (v.find (Sh.strOf u)).isNone := ⟨_, rfl⟩
 have HF := Lib.hid hf
 have HRES := Lib.hid (show (l.any fun u => (v.find (Sh.strOf u)).isNone) = l.any f by rw [hf])
 clear hf
 clear hx hl hm hmt
 go_enter Tryz.func28, Tryz.ntmps28
 go_wp2_with fail
 generalize (w.alloc (.cells #[.int .i64 v_1, .bool v_2, .bool v_3, .string ⟨v_4.toArray⟩, .int .i64 v_5, .string ⟨v_6.toArray⟩, .slice v_7 v_8 v_9, .slice v_a v_b v_c] 31)) = ws at *
 go_loopw [11] (Noned l f ws) (fun i _ => l.length - (intOf i).toNat)
 case atStart => exact ⟨0, Nat.zero_le _, rfl, fun q h h1 => by omega, Below.refl _ _⟩
 case round =>
  obtain ⟨j, hj, rfl, hno, hbr⟩ := hrel
  obtain ⟨wz, hwz⟩ : ∃ W, W = wr := ⟨_, rfl⟩
  subst hwz
  have HNO := Lib.hid hno
  have HBR := Lib.hid hbr
  clear hno hbr
  have HBW := Lib.hid (HBS.out.trans (HBR.out.mono HBS.out.size))
  obtain ⟨a0, a1, a2, a3, a4, a5, a6, a7⟩ := (HBX.out.on HBR.out).eight
  have al := (HBX.out.on HBR.out).lt
  by_cases hlt : j < l.length
  ·obtain ⟨g, o, y, rfl, hy, hc⟩ := HL.out j _ (List.getElem?_eq_getElem hlt)
   have HMX := Lib.hid (HMT.out _ (List.getElem_mem hlt))
   have HNX := Lib.hid (fun h q hq hl => noned_next (f := f) hlt HNO.out h q hq hl)
   have HON := Lib.hid (fun h => noned_one (f := f) hlt h)
   generalize (l[j]'hlt) = X at *
   obtain ⟨k, b, n, s, l1, m1⟩ := X
   obtain ⟨A1, e1, B1, d1, rfl, p1, p2, p3, p4, p5, p6⟩ := In.form hy
   obtain ⟨c0, c1, c2, c3, c4, c5, c6, c7⟩ := (hc.keep (le_below HBW.out)).eight
   have cl := World.block_lt_of_cell? _ _ c0
   have HY := Lib.hid (In.keep (le_below (HBW.out.alloc HBW.out.size (.cells #[.int .i64 k, .bool b, .bool n.neg, .string ⟨n.digits.toArray⟩, .int .i64 n.exp, .string ⟨s.toArray⟩, .slice A1 l1.length e1, .slice B1 m1.length d1] 31))) _ _ hy)
   have HV1 := Lib.hid (In.keep (le_below (HBW.out.alloc HBW.out.size (.cells #[.int .i64 k, .bool b, .bool n.neg, .string ⟨n.digits.toArray⟩, .int .i64 n.exp, .string ⟨s.toArray⟩, .slice A1 l1.length e1, .slice B1 m1.length d1] 31))) _ _ HV.out)
   have HB1 := Lib.hid (HBR.out.alloc HBR.out.size (.cells #[.int .i64 k, .bool b, .bool n.neg, .string ⟨n.digits.toArray⟩, .int .i64 n.exp, .string ⟨s.toArray⟩, .slice A1 l1.length e1, .slice B1 m1.length d1] 31))
   clear hy hc p5 p6
   have HSM := Lib.hid (fun (W : World) h1 => HFI.out s W h1)
   unfold FindPost at HSM
   have hfx : f (.mk k b n s l1 m1) = !(v.find s).isSome := by rw [HF.out, Option.not_isSome]; rfl
   rw [hfx] at HNX HON
   clear hfx
   generalize v.find s = fr at *
   obtain ⟨q, hq⟩ : ∃ q, fr.isSome = q := ⟨_, rfl⟩
   rw [hq] at HNX HON
   simp only [hq] at HSM
   go_wp2_with fail
   refine (HSM.out _ HV1.out).mono ?_
   rintro e2 w2 ⟨y2, rfl, hy2, hb2⟩
   obtain ⟨f_1, f_2, f_3, f_4, f_5, f_6, f_7, f_8, f_9, f_a, f_b, f_c, rfl⟩ := In.cells hy2
   have HB2 := Lib.hid (HB1.out.trans (hb2.mono HB1.out.size))
   clear hb2
   have HB3 := Lib.hid (HB2.out.alloc HB2.out.size (.cells #[.int .i64 f_1, .bool f_2, .bool f_3, .string ⟨f_4.toArray⟩, .int .i64 f_5, .string ⟨f_6.toArray⟩, .slice f_7 f_8 f_9, .slice f_a f_b f_c] 31))
   clear hy2 hq
   cases q with
   | false =>
    have HD := Lib.hid (HON.out rfl)
    go_wp2_with fail
    go_ret
    exact ⟨by rw [HRES.out, HD.out]; rfl, HBS.out.trans (HB3.out.mono HBS.out.size)⟩
   | true =>
    have HD := Lib.hid (HNX.out rfl)
    go_wp2_with fail
    go_roundw
    case rel => exact ⟨j + 1, by omega, by go_num, HD.out, HB3.out⟩
    case measure => simp [intOf]; omega
  ·obtain rfl : j = l.length := by omega
   have HD := Lib.hid (noned_all HNO.out)
   go_wp2_with fail
   go_ret
   exact ⟨by rw [HRES.out, HD.out]; rfl, HBW.out⟩

end Go.Proofs.YtolkfgikomminaaGreatDoor

namespace Go.Proofs.YtolkfgikomminaaGreatDoor
open Go.RowKit Js

theorem Blk.ten14 {w : World} {g : Nat} {t : TypeId} {c0 c1 c2 c3 c4 c5 c6 c7 c8 c9 : Value} (h : Blk w g t #[c0, c1, c2, c3, c4, c5, c6, c7, c8, c9]) :
  w.cell? ⟨g, 0, none⟩ = some c0 ∧ w.cell? ⟨g, 1, none⟩ = some c1 ∧ w.cell? ⟨g, 2, none⟩ = some c2 ∧ w.cell? ⟨g, 3, none⟩ = some c3 ∧ w.cell? ⟨g, 4, none⟩ = some c4 ∧ w.cell? ⟨g, 5, none⟩ = some c5 ∧ w.cell? ⟨g, 6, none⟩ = some c6 ∧ w.cell? ⟨g, 7, none⟩ = some c7 ∧ w.cell? ⟨g, 8, none⟩ = some c8 ∧ w.cell? ⟨g, 9, none⟩ = some c9 :=
 ⟨h.cell 0, h.cell 1, h.cell 2, h.cell 3, h.cell 4, h.cell 5, h.cell 6, h.cell 7, h.cell 8, h.cell 9⟩

set_option linter.unusedVariables false in
set_option linter.unusedSimpArgs false in
set_option maxRecDepth 100000 in
set_option maxHeartbeats 64000000 in
theorem fails14_any (nm : List UInt8) (k : Int) (b : Bool) (n : Nm.Num) (s : List UInt8) (l : List Vl) (m : List Js.Mem) (A : Option Addr) (e : Nat) (B : Option Addr) (d : Nat) (A4 : Option Addr) (n4 c4 : Nat) (v : Vl) (xv : Value) (w : World) (hmk : (Vl.mk k b n s l m).may = true) (hwv : Wide v) (hxk : (Vl.mk k b n s l m).In w.cell? (vlV k b n.neg n.digits n.exp s (.slice A l.length e) (.slice B m.length d))) (hxv : v.In w.cell? xv) (htab : Tab w) : Calls Tryz.prog 15 #[.agg #[.string ⟨nm.toArray⟩, .int .i64 k, .bool b, .bool n.neg, .string ⟨n.digits.toArray⟩, .int .i64 n.exp, .string ⟨s.toArray⟩, .slice A l.length e, .slice B m.length d, .slice A4 n4 c4], xv] w fun e w' => e = .returned (.bool (Ow.fails nm (.mk k b n s l m) v)) ∧ Below w.heap.size w w' := by
 obtain ⟨hmv, hsz, hsl⟩ := hwv
 obtain ⟨vk, vb, vn, vs, vl, vm⟩ := v
 obtain ⟨Av, ev, Bv, dv, rfl, r1, r2, r3, r4, r5, r6⟩ := In.form hxv
 obtain ⟨A', e', B', d', he, q1, q2, q3, q4, q5, q6⟩ := In.form hxk
 unfold vlV at he
 simp at he
 obtain ⟨⟨rfl, rfl⟩, rfl, rfl⟩ := he
 have HXK := Lib.hid hxk
 have HXV := Lib.hid hxv
 have HLK := Lib.hid (show SlL w.cell? A l from q5)
 have HLV := Lib.hid (show SlL w.cell? Av vl from r5)
 have HMK := Lib.hid hmk
 have HMV := Lib.hid hmv
 have HQ := Lib.hid (⟨q1, q2⟩ : l.length ≤ e ∧ e ≤ maxLen)
 have HMKL := Lib.hid ((mayL_iff l).1 (may_own hmk).2.2.2.2.2.2.2.2.2.1)
 have HMVL := Lib.hid ((mayL_iff vl).1 (may_own hmv).2.2.2.2.2.2.2.2.2.1)
 have HVL4 := Lib.hid (may_own hmv).2.2.2.2.2.1
 have HNK := Lib.hid (mayNum_May (may_own hmk).2.2.2.2.2.2.2.1)
 have HNV := Lib.hid (mayNum_May (may_own hmv).2.2.2.2.2.2.2.1)
 have hvl : vl.length ≤ 1000000 := by
  have h : vl.length ≤ sizeL vl := sizeL_len vl
  simp only [Vl.size] at hsz; omega
 have hvs : vs.length ≤ 1000000 := by simp only [Vl.slim] at hsl; exact hsl.2.1
 have HSZ := Lib.hid hsz
 have HT := Lib.hid htab
 unfold maxLen at q2 r2 q4 r4
 have HB0 := Lib.hid (((Below.refl w.heap.size w).alloc (Nat.le_refl _) (.cells #[.string ⟨nm.toArray⟩, .int .i64 k, .bool b, .bool n.neg, .string ⟨n.digits.toArray⟩, .int .i64 n.exp, .string ⟨s.toArray⟩, .slice A l.length e, .slice B m.length d, .slice A4 n4 c4] 43)).alloc (by simp) (.cells #[.int .i64 vk, .bool vb, .bool vn.neg, .string ⟨vn.digits.toArray⟩, .int .i64 vn.exp, .string ⟨vs.toArray⟩, .slice Av vl.length ev, .slice Bv vm.length dv] 31))
 clear hxk hxv q5 q6 r5 r6 hsz hsl hmk hmv htab
 by_cases hnm : nm = [116, 121, 112, 101]
 ·have f0 : (nm == [116, 121, 112, 101]) = true := by rw [hnm]; rfl
  have HXV0 := Lib.hid (In.keep (le_below HB0.out) _ _ HXV.out)
  have HXK0 := Lib.hid (In.keep (le_below HB0.out) _ _ HXK.out)
  have HLK0 := Lib.hid (HLK.out.keep (le_below HB0.out))
  have HLV0 := Lib.hid (HLV.out.keep (le_below HB0.out))
  have HC := Lib.hid (fun (W : World) h1 h2 => isOfTypes_any (.mk vk vb vn vs vl vm) (.mk k b n s l m) (.agg #[.int .i64 vk, .bool vb, .bool vn.neg, .string ⟨vn.digits.toArray⟩, .int .i64 vn.exp, .string ⟨vs.toArray⟩, .slice Av vl.length ev, .slice Bv vm.length dv]) (.agg #[.int .i64 k, .bool b, .bool n.neg, .string ⟨n.digits.toArray⟩, .int .i64 n.exp, .string ⟨s.toArray⟩, .slice A l.length e, .slice B m.length d]) W HMV.out HMK.out h1 h2)
  obtain ⟨q, hq⟩ : ∃ q, ((Ow.types (.mk k b n s l m)).any fun u => Ow.is (.mk vk vb vn vs vl vm) (Sh.strOf u)) = q := ⟨_, rfl⟩
  have HRES := Lib.hid (show Ow.fails nm (.mk k b n s l m) (.mk vk vb vn vs vl vm) = !q by rw [hnm, ← hq]; rfl)
  rw [hq] at HC
  clear hq hnm
  go_enter Tryz.func15, Tryz.ntmps15
  go_wp2_with fail
  refine (HC.out _ HXV0.out HXK0.out).mono ?_
  rintro e2 w2 ⟨rfl, hb2⟩
  have HB2 := Lib.hid (HB0.out.trans (hb2.mono HB0.out.size))
  clear hb2
  go_wp2_with fail
  go_ret
  exact ⟨by rw [HRES.out]; rfl, HB2.out⟩
 have f0 : (nm == [116, 121, 112, 101]) = false := by rw [beq_eq_false_iff_ne]; exact hnm
 clear hnm
 by_cases hnm : nm = [101, 110, 117, 109]
 ·have f1 : (nm == [101, 110, 117, 109]) = true := by rw [hnm]; rfl
  have HXV0 := Lib.hid (In.keep (le_below HB0.out) _ _ HXV.out)
  have HXK0 := Lib.hid (In.keep (le_below HB0.out) _ _ HXK.out)
  have HLK0 := Lib.hid (HLK.out.keep (le_below HB0.out))
  have HLV0 := Lib.hid (HLV.out.keep (le_below HB0.out))
  have HC := Lib.hid (fun (W : World) h1 h2 => isAmong_any (.mk vk vb vn vs vl vm) l (.agg #[.int .i64 vk, .bool vb, .bool vn.neg, .string ⟨vn.digits.toArray⟩, .int .i64 vn.exp, .string ⟨vs.toArray⟩, .slice Av vl.length ev, .slice Bv vm.length dv]) A e W HMV.out HMKL.out h1 h2 HQ.out.1 HQ.out.2)
  obtain ⟨q, hq⟩ : ∃ q, Ow.among l (.mk vk vb vn vs vl vm) = q := ⟨_, rfl⟩
  have HRES := Lib.hid (show Ow.fails nm (.mk k b n s l m) (.mk vk vb vn vs vl vm) = !q by rw [hnm, ← hq]; rfl)
  rw [hq] at HC
  clear hq hnm
  go_enter Tryz.func15, Tryz.ntmps15
  go_wp2_with fail
  refine (HC.out _ HXV0.out HLK0.out).mono ?_
  rintro e2 w2 ⟨rfl, hb2⟩
  have HB2 := Lib.hid (HB0.out.trans (hb2.mono HB0.out.size))
  clear hb2
  go_wp2_with fail
  go_ret
  exact ⟨by rw [HRES.out]; rfl, HB2.out⟩
 have f1 : (nm == [101, 110, 117, 109]) = false := by rw [beq_eq_false_iff_ne]; exact hnm
 clear hnm
 by_cases hnm : nm = [99, 111, 110, 115, 116]
 ·have f2 : (nm == [99, 111, 110, 115, 116]) = true := by rw [hnm]; rfl
  have HXV0 := Lib.hid (In.keep (le_below HB0.out) _ _ HXV.out)
  have HXK0 := Lib.hid (In.keep (le_below HB0.out) _ _ HXK.out)
  have HLK0 := Lib.hid (HLK.out.keep (le_below HB0.out))
  have HLV0 := Lib.hid (HLV.out.keep (le_below HB0.out))
  have HC := Lib.hid (fun (W : World) h1 h2 => same_any (.mk vk vb vn vs vl vm) (.mk k b n s l m) (.agg #[.int .i64 vk, .bool vb, .bool vn.neg, .string ⟨vn.digits.toArray⟩, .int .i64 vn.exp, .string ⟨vs.toArray⟩, .slice Av vl.length ev, .slice Bv vm.length dv]) (.agg #[.int .i64 k, .bool b, .bool n.neg, .string ⟨n.digits.toArray⟩, .int .i64 n.exp, .string ⟨s.toArray⟩, .slice A l.length e, .slice B m.length d]) W HMV.out HMK.out h1 h2)
  obtain ⟨q, hq⟩ : ∃ q, (Vl.mk vk vb vn vs vl vm).same (.mk k b n s l m) = q := ⟨_, rfl⟩
  have HRES := Lib.hid (show Ow.fails nm (.mk k b n s l m) (.mk vk vb vn vs vl vm) = !q by rw [hnm, ← hq, same_comm]; rfl)
  rw [hq] at HC
  clear hq hnm
  go_enter Tryz.func15, Tryz.ntmps15
  go_wp2_with fail
  refine (HC.out _ HXV0.out HXK0.out).mono ?_
  rintro e2 w2 ⟨rfl, hb2⟩
  have HB2 := Lib.hid (HB0.out.trans (hb2.mono HB0.out.size))
  clear hb2
  go_wp2_with fail
  go_ret
  exact ⟨by rw [HRES.out]; rfl, HB2.out⟩
 have f2 : (nm == [99, 111, 110, 115, 116]) = false := by rw [beq_eq_false_iff_ne]; exact hnm
 clear hnm
 by_cases hnm : nm = [109, 105, 110, 105, 109, 117, 109]
 ·have f3 : (nm == [109, 105, 110, 105, 109, 117, 109]) = true := by rw [hnm]; rfl
  by_cases hk2 : vk = 2
  ·have g1 : (vk == 2) = true := by simpa using hk2
   have HC := Lib.hid (fun (W : World) => cmp_any vn.neg vn.digits vn.exp n.neg n.digits n.exp W HNV.out.fair HNK.out.fair)
   obtain ⟨q, hq⟩ : ∃ q, Nm.cmp ⟨vn.neg, vn.digits, vn.exp⟩ ⟨n.neg, n.digits, n.exp⟩ = q := ⟨_, rfl⟩
   have HRES := Lib.hid (show Ow.fails nm (.mk k b n s l m) (.mk vk vb vn vs vl vm) = decide (q < 0) by
    rw [hnm, ← hq, ← Nm.refCmp_eq _ _ HNV.out HNK.out, hk2]
    rfl)
   rw [hq] at HC
   clear hq hnm hk2
   go_enter Tryz.func15, Tryz.ntmps15
   go_wp2_with fail
   refine (HC.out _).mono ?_
   rintro e2 w2 ⟨rfl, hb2⟩
   have HB2 := Lib.hid (HB0.out.trans (hb2.mono HB0.out.size))
   clear hb2
   go_wp2_with fail
   go_ret
   exact ⟨by rw [HRES.out]; rfl, HB2.out⟩
  ·have g1 : (vk == 2) = false := by simpa using hk2
   have HRES := Lib.hid (show Ow.fails nm (.mk k b n s l m) (.mk vk vb vn vs vl vm) = false by rw [hnm]; simp [Ow.fails, Ow.kw14, Ow.keys14, Ow.failsOf, Sh.kindOf, hk2])
   clear hnm hk2
   go_enter Tryz.func15, Tryz.ntmps15
   go_wp2_with fail
   go_ret
   exact ⟨by rw [HRES.out]; rfl, HB0.out⟩
 have f3 : (nm == [109, 105, 110, 105, 109, 117, 109]) = false := by rw [beq_eq_false_iff_ne]; exact hnm
 clear hnm
 by_cases hnm : nm = [109, 97, 120, 105, 109, 117, 109]
 ·have f4 : (nm == [109, 97, 120, 105, 109, 117, 109]) = true := by rw [hnm]; rfl
  by_cases hk2 : vk = 2
  ·have g1 : (vk == 2) = true := by simpa using hk2
   have HC := Lib.hid (fun (W : World) => cmp_any vn.neg vn.digits vn.exp n.neg n.digits n.exp W HNV.out.fair HNK.out.fair)
   obtain ⟨q, hq⟩ : ∃ q, Nm.cmp ⟨vn.neg, vn.digits, vn.exp⟩ ⟨n.neg, n.digits, n.exp⟩ = q := ⟨_, rfl⟩
   have HRES := Lib.hid (show Ow.fails nm (.mk k b n s l m) (.mk vk vb vn vs vl vm) = decide (0 < q) by
    rw [hnm, ← hq, ← Nm.refCmp_eq _ _ HNV.out HNK.out, hk2]
    rfl)
   rw [hq] at HC
   clear hq hnm hk2
   go_enter Tryz.func15, Tryz.ntmps15
   go_wp2_with fail
   refine (HC.out _).mono ?_
   rintro e2 w2 ⟨rfl, hb2⟩
   have HB2 := Lib.hid (HB0.out.trans (hb2.mono HB0.out.size))
   clear hb2
   go_wp2_with fail
   go_ret
   exact ⟨by rw [HRES.out]; rfl, HB2.out⟩
  ·have g1 : (vk == 2) = false := by simpa using hk2
   have HRES := Lib.hid (show Ow.fails nm (.mk k b n s l m) (.mk vk vb vn vs vl vm) = false by rw [hnm]; simp [Ow.fails, Ow.kw14, Ow.keys14, Ow.failsOf, Sh.kindOf, hk2])
   clear hnm hk2
   go_enter Tryz.func15, Tryz.ntmps15
   go_wp2_with fail
   go_ret
   exact ⟨by rw [HRES.out]; rfl, HB0.out⟩
 have f4 : (nm == [109, 97, 120, 105, 109, 117, 109]) = false := by rw [beq_eq_false_iff_ne]; exact hnm
 clear hnm
 by_cases hnm : nm = [109, 105, 110, 76, 101, 110, 103, 116, 104]
 ·have f5 : (nm == [109, 105, 110, 76, 101, 110, 103, 116, 104]) = true := by rw [hnm]; rfl
  by_cases hk2 : vk = 3
  ·have g1 : (vk == 3) = true := by simpa using hk2
   obtain ⟨c, hc⟩ : ∃ c, Nm.count (Ow.chars vs : Int) = c := ⟨_, rfl⟩
   have hcm : Nm.May c := by rw [← hc]; exact Nm.countMay14 _ (by have := Ow.chars_le vs; omega)
   have HL1 := Lib.hid (fun (W : World) h => length14_any vs W hvs h)
   rw [hc] at HL1
   obtain ⟨q, hq⟩ : ∃ q, Nm.cmp c n = q := ⟨_, rfl⟩
   obtain ⟨z, hz⟩ : ∃ z, decide (q < 0) = z := ⟨_, rfl⟩
   have HRES := Lib.hid (show Ow.fails nm (.mk k b n s l m) (.mk vk vb vn vs vl vm) = z by
    rw [hnm, ← hz, ← hq, ← Nm.refCmp_eq _ _ hcm HNK.out, ← hc, hk2]
    rfl)
   have HZB := Lib.hid (show (Value.bool z) = Value.bool (decide (q < 0)) by rw [hz])
   have HC := Lib.hid (fun (W : World) => cmp_any c.neg c.digits c.exp n.neg n.digits n.exp W hcm.fair HNK.out.fair)
   rw [show Nm.cmp ⟨c.neg, c.digits, c.exp⟩ ⟨n.neg, n.digits, n.exp⟩ = q from hq] at HC
   unfold numV at HL1
   clear hq hnm hk2 hc hcm hz
   have HBK := Lib.hid ((Blk.new w 43 #[.string ⟨nm.toArray⟩, .int .i64 k, .bool b, .bool n.neg, .string ⟨n.digits.toArray⟩, .int .i64 n.exp, .string ⟨s.toArray⟩, .slice A l.length e, .slice B m.length d, .slice A4 n4 c4]).alloc (.cells #[.int .i64 vk, .bool vb, .bool vn.neg, .string ⟨vn.digits.toArray⟩, .int .i64 vn.exp, .string ⟨vs.toArray⟩, .slice Av vl.length ev, .slice Bv vm.length dv] 31))
   have HBV := Lib.hid (Blk.new2 w (.cells #[.string ⟨nm.toArray⟩, .int .i64 k, .bool b, .bool n.neg, .string ⟨n.digits.toArray⟩, .int .i64 n.exp, .string ⟨s.toArray⟩, .slice A l.length e, .slice B m.length d, .slice A4 n4 c4] 43) 31 #[.int .i64 vk, .bool vb, .bool vn.neg, .string ⟨vn.digits.toArray⟩, .int .i64 vn.exp, .string ⟨vs.toArray⟩, .slice Av vl.length ev, .slice Bv vm.length dv])
   go_enter Tryz.func15, Tryz.ntmps15
   go_upto_region 13 with (fail)
   generalize (w.alloc (.cells #[.string ⟨nm.toArray⟩, .int .i64 k, .bool b, .bool n.neg, .string ⟨n.digits.toArray⟩, .int .i64 n.exp, .string ⟨s.toArray⟩, .slice A l.length e, .slice B m.length d, .slice A4 n4 c4] 43)).alloc (.cells #[.int .i64 vk, .bool vb, .bool vn.neg, .string ⟨vn.digits.toArray⟩, .int .i64 vn.exp, .string ⟨vs.toArray⟩, .slice Av vl.length ev, .slice Bv vm.length dv] 31) = w0 at *
   refine wp_region_held_drew (S := fun W9 => Below w0.heap.size w0 W9) (by kernel_rfl) (show Below w0.heap.size w0 w0.drew from below_drewN (Below.refl _ _) 1) (fun ht => ?_)
   generalize w0.drew = w8 at *
   refine wpAnyH_take (i := 0) (oi := ⟨some _, _, _, _, _, _⟩) (v := (.pointer (some ⟨w.heap.size + 1, 0, none⟩))) rfl (by kernel_rfl) (by kernel_rfl) (by kernel_rfl) (fun _ _ _ h => h) (Or.inl ⟨by rfl, ?_⟩) ht ?_
   ·intro W9 hSw
    go_simp
   try simp only [Act.put, List.setIfInBounds_toArray, List.set_cons_zero, List.set_cons_succ]
   refine wpAnyH_take (i := 1) (oi := ⟨some _, _, _, _, _, _⟩) (v := (.int .i64 vk)) rfl (by kernel_rfl) (by kernel_rfl) (by kernel_rfl) (fun _ _ _ h => h) (Or.inl ⟨by rfl, ?_⟩) ht ?_
   ·intro W9 hSw
    obtain ⟨b0, b1, b2, b3, b4, b5, b6, b7⟩ := (HBV.out.on hSw).eight
    have bl := (HBV.out.on hSw).lt
    go_simp
   try simp only [Act.put, List.setIfInBounds_toArray, List.set_cons_zero, List.set_cons_succ]
   refine wpAnyH_take (i := 2) (oi := ⟨some _, _, _, _, _, _⟩) (v := (.bool true)) rfl (by kernel_rfl) (by kernel_rfl) (by kernel_rfl) (fun _ _ _ h => h) (Or.inl ⟨by rfl, ?_⟩) ht ?_
   ·intro W9 hSw
    go_simp
   try simp only [Act.put, List.setIfInBounds_toArray, List.set_cons_zero, List.set_cons_succ]
   refine wpAnyH_take (i := 3) (oi := ⟨some _, _, _, _, _, _⟩) (v := (.bool true)) rfl (by kernel_rfl) (by kernel_rfl) (by kernel_rfl) (fun _ _ _ h => h) (Or.inl ⟨by rfl, ?_⟩) ht ?_
   ·intro W9 hSw
    go_simp
   try simp only [Act.put, List.setIfInBounds_toArray, List.set_cons_zero, List.set_cons_succ]
   refine wpAnyH_take (i := 4) (oi := ⟨some _, _, _, _, _, _⟩) (v := (.pointer (some ⟨w.heap.size + 1, 5, none⟩))) rfl (by kernel_rfl) (by kernel_rfl) (by kernel_rfl) (fun _ _ _ h => h) (Or.inl ⟨by rfl, ?_⟩) ht ?_
   ·intro W9 hSw
    go_simp
   try simp only [Act.put, List.setIfInBounds_toArray, List.set_cons_zero, List.set_cons_succ]
   refine wpAnyH_take (i := 5) (oi := ⟨some _, _, _, _, _, _⟩) (v := (.string ⟨vs.toArray⟩)) rfl (by kernel_rfl) (by kernel_rfl) (by kernel_rfl) (fun _ _ _ h => h) (Or.inl ⟨by rfl, ?_⟩) ht ?_
   ·intro W9 hSw
    obtain ⟨b0, b1, b2, b3, b4, b5, b6, b7⟩ := (HBV.out.on hSw).eight
    have bl := (HBV.out.on hSw).lt
    go_simp
   try simp only [Act.put, List.setIfInBounds_toArray, List.set_cons_zero, List.set_cons_succ]
   refine wpAnyH_take (i := 7) (oi := ⟨some _, _, _, _, _, _⟩) (v := (.pointer (some ⟨w.heap.size, 1, none⟩))) rfl (by kernel_rfl) (by kernel_rfl) (by kernel_rfl) (fun _ _ _ h => h) (Or.inl ⟨by rfl, ?_⟩) ht ?_
   ·intro W9 hSw
    go_simp
   try simp only [Act.put, List.setIfInBounds_toArray, List.set_cons_zero, List.set_cons_succ]
   refine wpAnyH_take (i := 8) (oi := ⟨some _, _, _, _, _, _⟩) (v := (.pointer (some ⟨w.heap.size, 3, none⟩))) rfl (by kernel_rfl) (by kernel_rfl) (by kernel_rfl) (fun _ _ _ h => h) (Or.inl ⟨by rfl, ?_⟩) ht ?_
   ·intro W9 hSw
    go_simp
   try simp only [Act.put, List.setIfInBounds_toArray, List.set_cons_zero, List.set_cons_succ]
   refine wpAnyH_take (i := 9) (oi := ⟨some _, _, _, _, _, _⟩) (v := (.agg #[.bool n.neg, .string ⟨n.digits.toArray⟩, .int .i64 n.exp])) rfl (by kernel_rfl) (by kernel_rfl) (by kernel_rfl) (fun _ _ _ h => h) (Or.inl ⟨by rfl, ?_⟩) ht ?_
   ·intro W9 hSw
    obtain ⟨a0, a1, a2, a3, a4, a5, a6, a7, a8, a9⟩ := (HBK.out.on hSw).ten14
    have al := (HBK.out.on hSw).lt
    go_simp
   try simp only [Act.put, List.setIfInBounds_toArray, List.set_cons_zero, List.set_cons_succ]
   refine wpAnyH_ready (rs := [6]) (by kernel_rfl) (by simp) ?_
   refine AllReadyH.cons (o := ⟨some _, _, _, _, _, _⟩) rfl (fun K hK => ?_) (AllReadyH.nil)
   go_simp
   refine (HL1.out _ (HT.out.keep (HB0.out.trans (ht.mono HB0.out.size)))).mono ?_
   rintro e2 w2 ⟨rfl, hb2⟩
   have hs := ht.trans (hb2.mono ht.size)
   clear ht hb2
   go_wp2_with fail
   refine hK.out _ _ hs (fun ht => ?_)
   clear hK K hs
   try simp only [Act.put, List.setIfInBounds_toArray, List.set_cons_zero, List.set_cons_succ]
   refine wpAnyH_ready (rs := [10]) (by kernel_rfl) (by simp) ?_
   refine AllReadyH.cons (o := ⟨some _, _, _, _, _, _⟩) rfl (fun K hK => ?_) (AllReadyH.nil)
   go_simp
   refine (HC.out _).mono ?_
   rintro e3 w3 ⟨rfl, hb3⟩
   have hs := ht.trans (hb3.mono ht.size)
   clear ht hb3
   go_wp2_with fail
   refine hK.out _ _ hs (fun ht => ?_)
   clear hK K hs
   try simp only [Act.put, List.setIfInBounds_toArray, List.set_cons_zero, List.set_cons_succ]
   refine wpAnyH_take (i := 11) (oi := ⟨some _, _, _, _, _, _⟩) (v := (.bool z)) rfl (by kernel_rfl) (by kernel_rfl) (by kernel_rfl) (fun _ _ _ h => h) (Or.inl ⟨by rfl, ?_⟩) ht ?_
   ·intro W9 hSw
    rw [HZB.out]
    go_simp
   try simp only [Act.put, List.setIfInBounds_toArray, List.set_cons_zero, List.set_cons_succ]
   refine wpAnyH_take (i := 12) (oi := ⟨some _, _, _, _, _, _⟩) (v := (.bool z)) rfl (by kernel_rfl) (by kernel_rfl) (by kernel_rfl) (fun _ _ _ h => h) (Or.inl ⟨by rfl, ?_⟩) ht ?_
   ·intro W9 hSw
    go_simp
   try simp only [Act.put, List.setIfInBounds_toArray, List.set_cons_zero, List.set_cons_succ]
   refine wpAnyH_take (i := 13) (oi := ⟨some _, _, _, _, _, _⟩) (v := (.bool z)) rfl (by kernel_rfl) (by kernel_rfl) (by kernel_rfl) (fun _ _ _ h => h) (Or.inl ⟨by rfl, ?_⟩) ht ?_
   ·intro W9 hSw
    go_simp
   try simp only [Act.put, List.setIfInBounds_toArray, List.set_cons_zero, List.set_cons_succ]
   refine wpAnyH_done (by kernel_rfl) ?_ _
   have HB2 := Lib.hid (HB0.out.trans (ht.mono HB0.out.size))
   clear ht
   go_wp2_with fail
   go_ret
   exact ⟨by rw [HRES.out]; rfl, HB2.out⟩
  ·have g1 : (vk == 3) = false := by simpa using hk2
   have HRES := Lib.hid (show Ow.fails nm (.mk k b n s l m) (.mk vk vb vn vs vl vm) = false by rw [hnm]; simp [Ow.fails, Ow.kw14, Ow.keys14, Ow.failsOf, Sh.kindOf, hk2])
   clear hnm hk2
   have HBK := Lib.hid ((Blk.new w 43 #[.string ⟨nm.toArray⟩, .int .i64 k, .bool b, .bool n.neg, .string ⟨n.digits.toArray⟩, .int .i64 n.exp, .string ⟨s.toArray⟩, .slice A l.length e, .slice B m.length d, .slice A4 n4 c4]).alloc (.cells #[.int .i64 vk, .bool vb, .bool vn.neg, .string ⟨vn.digits.toArray⟩, .int .i64 vn.exp, .string ⟨vs.toArray⟩, .slice Av vl.length ev, .slice Bv vm.length dv] 31))
   have HBV := Lib.hid (Blk.new2 w (.cells #[.string ⟨nm.toArray⟩, .int .i64 k, .bool b, .bool n.neg, .string ⟨n.digits.toArray⟩, .int .i64 n.exp, .string ⟨s.toArray⟩, .slice A l.length e, .slice B m.length d, .slice A4 n4 c4] 43) 31 #[.int .i64 vk, .bool vb, .bool vn.neg, .string ⟨vn.digits.toArray⟩, .int .i64 vn.exp, .string ⟨vs.toArray⟩, .slice Av vl.length ev, .slice Bv vm.length dv])
   go_enter Tryz.func15, Tryz.ntmps15
   go_upto_region 13 with (fail)
   generalize (w.alloc (.cells #[.string ⟨nm.toArray⟩, .int .i64 k, .bool b, .bool n.neg, .string ⟨n.digits.toArray⟩, .int .i64 n.exp, .string ⟨s.toArray⟩, .slice A l.length e, .slice B m.length d, .slice A4 n4 c4] 43)).alloc (.cells #[.int .i64 vk, .bool vb, .bool vn.neg, .string ⟨vn.digits.toArray⟩, .int .i64 vn.exp, .string ⟨vs.toArray⟩, .slice Av vl.length ev, .slice Bv vm.length dv] 31) = w0 at *
   refine wp_region_held_drew (S := fun W9 => Below w0.heap.size w0 W9) (by kernel_rfl) (show Below w0.heap.size w0 w0.drew from below_drewN (Below.refl _ _) 1) (fun ht => ?_)
   generalize w0.drew = w8 at *
   refine wpAnyH_take (i := 0) (oi := ⟨some _, _, _, _, _, _⟩) (v := (.pointer (some ⟨w.heap.size + 1, 0, none⟩))) rfl (by kernel_rfl) (by kernel_rfl) (by kernel_rfl) (fun _ _ _ h => h) (Or.inl ⟨by rfl, ?_⟩) ht ?_
   ·intro W9 hSw
    go_simp
   try simp only [Act.put, List.setIfInBounds_toArray, List.set_cons_zero, List.set_cons_succ]
   refine wpAnyH_take (i := 1) (oi := ⟨some _, _, _, _, _, _⟩) (v := (.int .i64 vk)) rfl (by kernel_rfl) (by kernel_rfl) (by kernel_rfl) (fun _ _ _ h => h) (Or.inl ⟨by rfl, ?_⟩) ht ?_
   ·intro W9 hSw
    obtain ⟨b0, b1, b2, b3, b4, b5, b6, b7⟩ := (HBV.out.on hSw).eight
    have bl := (HBV.out.on hSw).lt
    go_simp
   try simp only [Act.put, List.setIfInBounds_toArray, List.set_cons_zero, List.set_cons_succ]
   refine wpAnyH_take (i := 2) (oi := ⟨some _, _, _, _, _, _⟩) (v := (.bool false)) rfl (by kernel_rfl) (by kernel_rfl) (by kernel_rfl) (fun _ _ _ h => h) (Or.inl ⟨by rfl, ?_⟩) ht ?_
   ·intro W9 hSw
    go_simp
   try simp only [Act.put, List.setIfInBounds_toArray, List.set_cons_zero, List.set_cons_succ]
   refine wpAnyH_take (i := 3) (oi := ⟨some _, _, _, _, _, _⟩) (v := (.bool false)) rfl (by kernel_rfl) (by kernel_rfl) (by kernel_rfl) (fun _ _ _ h => h) (Or.inl ⟨by rfl, ?_⟩) ht ?_
   ·intro W9 hSw
    go_simp
   try simp only [Act.put, List.setIfInBounds_toArray, List.set_cons_zero, List.set_cons_succ]
   refine wpAnyH_take (i := 4) (oi := ⟨some _, _, _, _, _, _⟩) (v := undef) rfl (by kernel_rfl) (by kernel_rfl) (by kernel_rfl) (fun _ _ _ h => h) (Or.inr ⟨by rfl, rfl⟩) ht ?_
   try simp only [Act.put, List.setIfInBounds_toArray, List.set_cons_zero, List.set_cons_succ]
   refine wpAnyH_take (i := 5) (oi := ⟨some _, _, _, _, _, _⟩) (v := undef) rfl (by kernel_rfl) (by kernel_rfl) (by kernel_rfl) (fun _ _ _ h => h) (Or.inr ⟨by rfl, rfl⟩) ht ?_
   try simp only [Act.put, List.setIfInBounds_toArray, List.set_cons_zero, List.set_cons_succ]
   refine wpAnyH_take (i := 6) (oi := ⟨some _, _, _, _, _, _⟩) (v := undef) rfl (by kernel_rfl) (by kernel_rfl) (by kernel_rfl) (fun _ _ _ h => h) (Or.inr ⟨by rfl, rfl⟩) ht ?_
   try simp only [Act.put, List.setIfInBounds_toArray, List.set_cons_zero, List.set_cons_succ]
   refine wpAnyH_take (i := 7) (oi := ⟨some _, _, _, _, _, _⟩) (v := undef) rfl (by kernel_rfl) (by kernel_rfl) (by kernel_rfl) (fun _ _ _ h => h) (Or.inr ⟨by rfl, rfl⟩) ht ?_
   try simp only [Act.put, List.setIfInBounds_toArray, List.set_cons_zero, List.set_cons_succ]
   refine wpAnyH_take (i := 8) (oi := ⟨some _, _, _, _, _, _⟩) (v := undef) rfl (by kernel_rfl) (by kernel_rfl) (by kernel_rfl) (fun _ _ _ h => h) (Or.inr ⟨by rfl, rfl⟩) ht ?_
   try simp only [Act.put, List.setIfInBounds_toArray, List.set_cons_zero, List.set_cons_succ]
   refine wpAnyH_take (i := 9) (oi := ⟨some _, _, _, _, _, _⟩) (v := undef) rfl (by kernel_rfl) (by kernel_rfl) (by kernel_rfl) (fun _ _ _ h => h) (Or.inr ⟨by rfl, rfl⟩) ht ?_
   try simp only [Act.put, List.setIfInBounds_toArray, List.set_cons_zero, List.set_cons_succ]
   refine wpAnyH_take (i := 10) (oi := ⟨some _, _, _, _, _, _⟩) (v := undef) rfl (by kernel_rfl) (by kernel_rfl) (by kernel_rfl) (fun _ _ _ h => h) (Or.inr ⟨by rfl, rfl⟩) ht ?_
   try simp only [Act.put, List.setIfInBounds_toArray, List.set_cons_zero, List.set_cons_succ]
   refine wpAnyH_take (i := 11) (oi := ⟨some _, _, _, _, _, _⟩) (v := undef) rfl (by kernel_rfl) (by kernel_rfl) (by kernel_rfl) (fun _ _ _ h => h) (Or.inr ⟨by rfl, rfl⟩) ht ?_
   try simp only [Act.put, List.setIfInBounds_toArray, List.set_cons_zero, List.set_cons_succ]
   refine wpAnyH_take (i := 12) (oi := ⟨some _, _, _, _, _, _⟩) (v := (.bool false)) rfl (by kernel_rfl) (by kernel_rfl) (by kernel_rfl) (fun _ _ _ h => h) (Or.inl ⟨by rfl, ?_⟩) ht ?_
   ·intro W9 hSw
    go_simp
   try simp only [Act.put, List.setIfInBounds_toArray, List.set_cons_zero, List.set_cons_succ]
   refine wpAnyH_take (i := 13) (oi := ⟨some _, _, _, _, _, _⟩) (v := (.bool false)) rfl (by kernel_rfl) (by kernel_rfl) (by kernel_rfl) (fun _ _ _ h => h) (Or.inl ⟨by rfl, ?_⟩) ht ?_
   ·intro W9 hSw
    go_simp
   try simp only [Act.put, List.setIfInBounds_toArray, List.set_cons_zero, List.set_cons_succ]
   refine wpAnyH_done (by kernel_rfl) ?_ _
   have HB2 := Lib.hid (HB0.out.trans (ht.mono HB0.out.size))
   clear ht
   go_wp2_with fail
   go_ret
   exact ⟨by rw [HRES.out]; rfl, HB2.out⟩
 have f5 : (nm == [109, 105, 110, 76, 101, 110, 103, 116, 104]) = false := by rw [beq_eq_false_iff_ne]; exact hnm
 clear hnm
 by_cases hnm : nm = [109, 97, 120, 76, 101, 110, 103, 116, 104]
 ·have f6 : (nm == [109, 97, 120, 76, 101, 110, 103, 116, 104]) = true := by rw [hnm]; rfl
  by_cases hk2 : vk = 3
  ·have g1 : (vk == 3) = true := by simpa using hk2
   obtain ⟨c, hc⟩ : ∃ c, Nm.count (Ow.chars vs : Int) = c := ⟨_, rfl⟩
   have hcm : Nm.May c := by rw [← hc]; exact Nm.countMay14 _ (by have := Ow.chars_le vs; omega)
   have HL1 := Lib.hid (fun (W : World) h => length14_any vs W hvs h)
   rw [hc] at HL1
   obtain ⟨q, hq⟩ : ∃ q, Nm.cmp c n = q := ⟨_, rfl⟩
   obtain ⟨z, hz⟩ : ∃ z, decide (q > 0) = z := ⟨_, rfl⟩
   have HRES := Lib.hid (show Ow.fails nm (.mk k b n s l m) (.mk vk vb vn vs vl vm) = z by
    rw [hnm, ← hz, ← hq, ← Nm.refCmp_eq _ _ hcm HNK.out, ← hc, hk2]
    rfl)
   have HZB := Lib.hid (show (Value.bool z) = Value.bool (decide (q > 0)) by rw [hz])
   have HC := Lib.hid (fun (W : World) => cmp_any c.neg c.digits c.exp n.neg n.digits n.exp W hcm.fair HNK.out.fair)
   rw [show Nm.cmp ⟨c.neg, c.digits, c.exp⟩ ⟨n.neg, n.digits, n.exp⟩ = q from hq] at HC
   unfold numV at HL1
   clear hq hnm hk2 hc hcm hz
   have HBK := Lib.hid ((Blk.new w 43 #[.string ⟨nm.toArray⟩, .int .i64 k, .bool b, .bool n.neg, .string ⟨n.digits.toArray⟩, .int .i64 n.exp, .string ⟨s.toArray⟩, .slice A l.length e, .slice B m.length d, .slice A4 n4 c4]).alloc (.cells #[.int .i64 vk, .bool vb, .bool vn.neg, .string ⟨vn.digits.toArray⟩, .int .i64 vn.exp, .string ⟨vs.toArray⟩, .slice Av vl.length ev, .slice Bv vm.length dv] 31))
   have HBV := Lib.hid (Blk.new2 w (.cells #[.string ⟨nm.toArray⟩, .int .i64 k, .bool b, .bool n.neg, .string ⟨n.digits.toArray⟩, .int .i64 n.exp, .string ⟨s.toArray⟩, .slice A l.length e, .slice B m.length d, .slice A4 n4 c4] 43) 31 #[.int .i64 vk, .bool vb, .bool vn.neg, .string ⟨vn.digits.toArray⟩, .int .i64 vn.exp, .string ⟨vs.toArray⟩, .slice Av vl.length ev, .slice Bv vm.length dv])
   go_enter Tryz.func15, Tryz.ntmps15
   go_upto_region 15 with (fail)
   generalize (w.alloc (.cells #[.string ⟨nm.toArray⟩, .int .i64 k, .bool b, .bool n.neg, .string ⟨n.digits.toArray⟩, .int .i64 n.exp, .string ⟨s.toArray⟩, .slice A l.length e, .slice B m.length d, .slice A4 n4 c4] 43)).alloc (.cells #[.int .i64 vk, .bool vb, .bool vn.neg, .string ⟨vn.digits.toArray⟩, .int .i64 vn.exp, .string ⟨vs.toArray⟩, .slice Av vl.length ev, .slice Bv vm.length dv] 31) = w0 at *
   refine wp_region_held_drew (S := fun W9 => Below w0.heap.size w0 W9) (by kernel_rfl) (show Below w0.heap.size w0 w0.drew from below_drewN (Below.refl _ _) 1) (fun ht => ?_)
   generalize w0.drew = w8 at *
   refine wpAnyH_take (i := 0) (oi := ⟨some _, _, _, _, _, _⟩) (v := (.pointer (some ⟨w.heap.size + 1, 0, none⟩))) rfl (by kernel_rfl) (by kernel_rfl) (by kernel_rfl) (fun _ _ _ h => h) (Or.inl ⟨by rfl, ?_⟩) ht ?_
   ·intro W9 hSw
    go_simp
   try simp only [Act.put, List.setIfInBounds_toArray, List.set_cons_zero, List.set_cons_succ]
   refine wpAnyH_take (i := 1) (oi := ⟨some _, _, _, _, _, _⟩) (v := (.int .i64 vk)) rfl (by kernel_rfl) (by kernel_rfl) (by kernel_rfl) (fun _ _ _ h => h) (Or.inl ⟨by rfl, ?_⟩) ht ?_
   ·intro W9 hSw
    obtain ⟨b0, b1, b2, b3, b4, b5, b6, b7⟩ := (HBV.out.on hSw).eight
    have bl := (HBV.out.on hSw).lt
    go_simp
   try simp only [Act.put, List.setIfInBounds_toArray, List.set_cons_zero, List.set_cons_succ]
   refine wpAnyH_take (i := 2) (oi := ⟨some _, _, _, _, _, _⟩) (v := (.bool true)) rfl (by kernel_rfl) (by kernel_rfl) (by kernel_rfl) (fun _ _ _ h => h) (Or.inl ⟨by rfl, ?_⟩) ht ?_
   ·intro W9 hSw
    go_simp
   try simp only [Act.put, List.setIfInBounds_toArray, List.set_cons_zero, List.set_cons_succ]
   refine wpAnyH_take (i := 3) (oi := ⟨some _, _, _, _, _, _⟩) (v := (.bool true)) rfl (by kernel_rfl) (by kernel_rfl) (by kernel_rfl) (fun _ _ _ h => h) (Or.inl ⟨by rfl, ?_⟩) ht ?_
   ·intro W9 hSw
    go_simp
   try simp only [Act.put, List.setIfInBounds_toArray, List.set_cons_zero, List.set_cons_succ]
   refine wpAnyH_take (i := 4) (oi := ⟨some _, _, _, _, _, _⟩) (v := (.pointer (some ⟨w.heap.size + 1, 5, none⟩))) rfl (by kernel_rfl) (by kernel_rfl) (by kernel_rfl) (fun _ _ _ h => h) (Or.inl ⟨by rfl, ?_⟩) ht ?_
   ·intro W9 hSw
    go_simp
   try simp only [Act.put, List.setIfInBounds_toArray, List.set_cons_zero, List.set_cons_succ]
   refine wpAnyH_take (i := 5) (oi := ⟨some _, _, _, _, _, _⟩) (v := (.string ⟨vs.toArray⟩)) rfl (by kernel_rfl) (by kernel_rfl) (by kernel_rfl) (fun _ _ _ h => h) (Or.inl ⟨by rfl, ?_⟩) ht ?_
   ·intro W9 hSw
    obtain ⟨b0, b1, b2, b3, b4, b5, b6, b7⟩ := (HBV.out.on hSw).eight
    have bl := (HBV.out.on hSw).lt
    go_simp
   try simp only [Act.put, List.setIfInBounds_toArray, List.set_cons_zero, List.set_cons_succ]
   refine wpAnyH_take (i := 7) (oi := ⟨some _, _, _, _, _, _⟩) (v := (.pointer (some ⟨w.heap.size, 1, none⟩))) rfl (by kernel_rfl) (by kernel_rfl) (by kernel_rfl) (fun _ _ _ h => h) (Or.inl ⟨by rfl, ?_⟩) ht ?_
   ·intro W9 hSw
    go_simp
   try simp only [Act.put, List.setIfInBounds_toArray, List.set_cons_zero, List.set_cons_succ]
   refine wpAnyH_take (i := 8) (oi := ⟨some _, _, _, _, _, _⟩) (v := (.pointer (some ⟨w.heap.size, 3, none⟩))) rfl (by kernel_rfl) (by kernel_rfl) (by kernel_rfl) (fun _ _ _ h => h) (Or.inl ⟨by rfl, ?_⟩) ht ?_
   ·intro W9 hSw
    go_simp
   try simp only [Act.put, List.setIfInBounds_toArray, List.set_cons_zero, List.set_cons_succ]
   refine wpAnyH_take (i := 9) (oi := ⟨some _, _, _, _, _, _⟩) (v := (.agg #[.bool n.neg, .string ⟨n.digits.toArray⟩, .int .i64 n.exp])) rfl (by kernel_rfl) (by kernel_rfl) (by kernel_rfl) (fun _ _ _ h => h) (Or.inl ⟨by rfl, ?_⟩) ht ?_
   ·intro W9 hSw
    obtain ⟨a0, a1, a2, a3, a4, a5, a6, a7, a8, a9⟩ := (HBK.out.on hSw).ten14
    have al := (HBK.out.on hSw).lt
    go_simp
   try simp only [Act.put, List.setIfInBounds_toArray, List.set_cons_zero, List.set_cons_succ]
   refine wpAnyH_ready (rs := [6]) (by kernel_rfl) (by simp) ?_
   refine AllReadyH.cons (o := ⟨some _, _, _, _, _, _⟩) rfl (fun K hK => ?_) (AllReadyH.nil)
   go_simp
   refine (HL1.out _ (HT.out.keep (HB0.out.trans (ht.mono HB0.out.size)))).mono ?_
   rintro e2 w2 ⟨rfl, hb2⟩
   have hs := ht.trans (hb2.mono ht.size)
   clear ht hb2
   go_wp2_with fail
   refine hK.out _ _ hs (fun ht => ?_)
   clear hK K hs
   try simp only [Act.put, List.setIfInBounds_toArray, List.set_cons_zero, List.set_cons_succ]
   refine wpAnyH_ready (rs := [10]) (by kernel_rfl) (by simp) ?_
   refine AllReadyH.cons (o := ⟨some _, _, _, _, _, _⟩) rfl (fun K hK => ?_) (AllReadyH.nil)
   go_simp
   refine (HC.out _).mono ?_
   rintro e3 w3 ⟨rfl, hb3⟩
   have hs := ht.trans (hb3.mono ht.size)
   clear ht hb3
   go_wp2_with fail
   refine hK.out _ _ hs (fun ht => ?_)
   clear hK K hs
   try simp only [Act.put, List.setIfInBounds_toArray, List.set_cons_zero, List.set_cons_succ]
   refine wpAnyH_take (i := 11) (oi := ⟨some _, _, _, _, _, _⟩) (v := (.bool z)) rfl (by kernel_rfl) (by kernel_rfl) (by kernel_rfl) (fun _ _ _ h => h) (Or.inl ⟨by rfl, ?_⟩) ht ?_
   ·intro W9 hSw
    rw [HZB.out]
    go_simp
   try simp only [Act.put, List.setIfInBounds_toArray, List.set_cons_zero, List.set_cons_succ]
   refine wpAnyH_take (i := 12) (oi := ⟨some _, _, _, _, _, _⟩) (v := (.bool z)) rfl (by kernel_rfl) (by kernel_rfl) (by kernel_rfl) (fun _ _ _ h => h) (Or.inl ⟨by rfl, ?_⟩) ht ?_
   ·intro W9 hSw
    go_simp
   try simp only [Act.put, List.setIfInBounds_toArray, List.set_cons_zero, List.set_cons_succ]
   refine wpAnyH_take (i := 13) (oi := ⟨some _, _, _, _, _, _⟩) (v := (.bool z)) rfl (by kernel_rfl) (by kernel_rfl) (by kernel_rfl) (fun _ _ _ h => h) (Or.inl ⟨by rfl, ?_⟩) ht ?_
   ·intro W9 hSw
    go_simp
   try simp only [Act.put, List.setIfInBounds_toArray, List.set_cons_zero, List.set_cons_succ]
   refine wpAnyH_done (by kernel_rfl) ?_ _
   have HB2 := Lib.hid (HB0.out.trans (ht.mono HB0.out.size))
   clear ht
   go_wp2_with fail
   go_ret
   exact ⟨by rw [HRES.out]; rfl, HB2.out⟩
  ·have g1 : (vk == 3) = false := by simpa using hk2
   have HRES := Lib.hid (show Ow.fails nm (.mk k b n s l m) (.mk vk vb vn vs vl vm) = false by rw [hnm]; simp [Ow.fails, Ow.kw14, Ow.keys14, Ow.failsOf, Sh.kindOf, hk2])
   clear hnm hk2
   have HBK := Lib.hid ((Blk.new w 43 #[.string ⟨nm.toArray⟩, .int .i64 k, .bool b, .bool n.neg, .string ⟨n.digits.toArray⟩, .int .i64 n.exp, .string ⟨s.toArray⟩, .slice A l.length e, .slice B m.length d, .slice A4 n4 c4]).alloc (.cells #[.int .i64 vk, .bool vb, .bool vn.neg, .string ⟨vn.digits.toArray⟩, .int .i64 vn.exp, .string ⟨vs.toArray⟩, .slice Av vl.length ev, .slice Bv vm.length dv] 31))
   have HBV := Lib.hid (Blk.new2 w (.cells #[.string ⟨nm.toArray⟩, .int .i64 k, .bool b, .bool n.neg, .string ⟨n.digits.toArray⟩, .int .i64 n.exp, .string ⟨s.toArray⟩, .slice A l.length e, .slice B m.length d, .slice A4 n4 c4] 43) 31 #[.int .i64 vk, .bool vb, .bool vn.neg, .string ⟨vn.digits.toArray⟩, .int .i64 vn.exp, .string ⟨vs.toArray⟩, .slice Av vl.length ev, .slice Bv vm.length dv])
   go_enter Tryz.func15, Tryz.ntmps15
   go_upto_region 15 with (fail)
   generalize (w.alloc (.cells #[.string ⟨nm.toArray⟩, .int .i64 k, .bool b, .bool n.neg, .string ⟨n.digits.toArray⟩, .int .i64 n.exp, .string ⟨s.toArray⟩, .slice A l.length e, .slice B m.length d, .slice A4 n4 c4] 43)).alloc (.cells #[.int .i64 vk, .bool vb, .bool vn.neg, .string ⟨vn.digits.toArray⟩, .int .i64 vn.exp, .string ⟨vs.toArray⟩, .slice Av vl.length ev, .slice Bv vm.length dv] 31) = w0 at *
   refine wp_region_held_drew (S := fun W9 => Below w0.heap.size w0 W9) (by kernel_rfl) (show Below w0.heap.size w0 w0.drew from below_drewN (Below.refl _ _) 1) (fun ht => ?_)
   generalize w0.drew = w8 at *
   refine wpAnyH_take (i := 0) (oi := ⟨some _, _, _, _, _, _⟩) (v := (.pointer (some ⟨w.heap.size + 1, 0, none⟩))) rfl (by kernel_rfl) (by kernel_rfl) (by kernel_rfl) (fun _ _ _ h => h) (Or.inl ⟨by rfl, ?_⟩) ht ?_
   ·intro W9 hSw
    go_simp
   try simp only [Act.put, List.setIfInBounds_toArray, List.set_cons_zero, List.set_cons_succ]
   refine wpAnyH_take (i := 1) (oi := ⟨some _, _, _, _, _, _⟩) (v := (.int .i64 vk)) rfl (by kernel_rfl) (by kernel_rfl) (by kernel_rfl) (fun _ _ _ h => h) (Or.inl ⟨by rfl, ?_⟩) ht ?_
   ·intro W9 hSw
    obtain ⟨b0, b1, b2, b3, b4, b5, b6, b7⟩ := (HBV.out.on hSw).eight
    have bl := (HBV.out.on hSw).lt
    go_simp
   try simp only [Act.put, List.setIfInBounds_toArray, List.set_cons_zero, List.set_cons_succ]
   refine wpAnyH_take (i := 2) (oi := ⟨some _, _, _, _, _, _⟩) (v := (.bool false)) rfl (by kernel_rfl) (by kernel_rfl) (by kernel_rfl) (fun _ _ _ h => h) (Or.inl ⟨by rfl, ?_⟩) ht ?_
   ·intro W9 hSw
    go_simp
   try simp only [Act.put, List.setIfInBounds_toArray, List.set_cons_zero, List.set_cons_succ]
   refine wpAnyH_take (i := 3) (oi := ⟨some _, _, _, _, _, _⟩) (v := (.bool false)) rfl (by kernel_rfl) (by kernel_rfl) (by kernel_rfl) (fun _ _ _ h => h) (Or.inl ⟨by rfl, ?_⟩) ht ?_
   ·intro W9 hSw
    go_simp
   try simp only [Act.put, List.setIfInBounds_toArray, List.set_cons_zero, List.set_cons_succ]
   refine wpAnyH_take (i := 4) (oi := ⟨some _, _, _, _, _, _⟩) (v := undef) rfl (by kernel_rfl) (by kernel_rfl) (by kernel_rfl) (fun _ _ _ h => h) (Or.inr ⟨by rfl, rfl⟩) ht ?_
   try simp only [Act.put, List.setIfInBounds_toArray, List.set_cons_zero, List.set_cons_succ]
   refine wpAnyH_take (i := 5) (oi := ⟨some _, _, _, _, _, _⟩) (v := undef) rfl (by kernel_rfl) (by kernel_rfl) (by kernel_rfl) (fun _ _ _ h => h) (Or.inr ⟨by rfl, rfl⟩) ht ?_
   try simp only [Act.put, List.setIfInBounds_toArray, List.set_cons_zero, List.set_cons_succ]
   refine wpAnyH_take (i := 6) (oi := ⟨some _, _, _, _, _, _⟩) (v := undef) rfl (by kernel_rfl) (by kernel_rfl) (by kernel_rfl) (fun _ _ _ h => h) (Or.inr ⟨by rfl, rfl⟩) ht ?_
   try simp only [Act.put, List.setIfInBounds_toArray, List.set_cons_zero, List.set_cons_succ]
   refine wpAnyH_take (i := 7) (oi := ⟨some _, _, _, _, _, _⟩) (v := undef) rfl (by kernel_rfl) (by kernel_rfl) (by kernel_rfl) (fun _ _ _ h => h) (Or.inr ⟨by rfl, rfl⟩) ht ?_
   try simp only [Act.put, List.setIfInBounds_toArray, List.set_cons_zero, List.set_cons_succ]
   refine wpAnyH_take (i := 8) (oi := ⟨some _, _, _, _, _, _⟩) (v := undef) rfl (by kernel_rfl) (by kernel_rfl) (by kernel_rfl) (fun _ _ _ h => h) (Or.inr ⟨by rfl, rfl⟩) ht ?_
   try simp only [Act.put, List.setIfInBounds_toArray, List.set_cons_zero, List.set_cons_succ]
   refine wpAnyH_take (i := 9) (oi := ⟨some _, _, _, _, _, _⟩) (v := undef) rfl (by kernel_rfl) (by kernel_rfl) (by kernel_rfl) (fun _ _ _ h => h) (Or.inr ⟨by rfl, rfl⟩) ht ?_
   try simp only [Act.put, List.setIfInBounds_toArray, List.set_cons_zero, List.set_cons_succ]
   refine wpAnyH_take (i := 10) (oi := ⟨some _, _, _, _, _, _⟩) (v := undef) rfl (by kernel_rfl) (by kernel_rfl) (by kernel_rfl) (fun _ _ _ h => h) (Or.inr ⟨by rfl, rfl⟩) ht ?_
   try simp only [Act.put, List.setIfInBounds_toArray, List.set_cons_zero, List.set_cons_succ]
   refine wpAnyH_take (i := 11) (oi := ⟨some _, _, _, _, _, _⟩) (v := undef) rfl (by kernel_rfl) (by kernel_rfl) (by kernel_rfl) (fun _ _ _ h => h) (Or.inr ⟨by rfl, rfl⟩) ht ?_
   try simp only [Act.put, List.setIfInBounds_toArray, List.set_cons_zero, List.set_cons_succ]
   refine wpAnyH_take (i := 12) (oi := ⟨some _, _, _, _, _, _⟩) (v := (.bool false)) rfl (by kernel_rfl) (by kernel_rfl) (by kernel_rfl) (fun _ _ _ h => h) (Or.inl ⟨by rfl, ?_⟩) ht ?_
   ·intro W9 hSw
    go_simp
   try simp only [Act.put, List.setIfInBounds_toArray, List.set_cons_zero, List.set_cons_succ]
   refine wpAnyH_take (i := 13) (oi := ⟨some _, _, _, _, _, _⟩) (v := (.bool false)) rfl (by kernel_rfl) (by kernel_rfl) (by kernel_rfl) (fun _ _ _ h => h) (Or.inl ⟨by rfl, ?_⟩) ht ?_
   ·intro W9 hSw
    go_simp
   try simp only [Act.put, List.setIfInBounds_toArray, List.set_cons_zero, List.set_cons_succ]
   refine wpAnyH_done (by kernel_rfl) ?_ _
   have HB2 := Lib.hid (HB0.out.trans (ht.mono HB0.out.size))
   clear ht
   go_wp2_with fail
   go_ret
   exact ⟨by rw [HRES.out]; rfl, HB2.out⟩
 have f6 : (nm == [109, 97, 120, 76, 101, 110, 103, 116, 104]) = false := by rw [beq_eq_false_iff_ne]; exact hnm
 clear hnm
 by_cases hnm : nm = [109, 105, 110, 73, 116, 101, 109, 115]
 ·have f7 : (nm == [109, 105, 110, 73, 116, 101, 109, 115]) = true := by rw [hnm]; rfl
  by_cases hk2 : vk = 4
  ·have g1 : (vk == 4) = true := by simpa using hk2
   obtain ⟨c, hc⟩ : ∃ c, Nm.count (vl.length : Int) = c := ⟨_, rfl⟩
   have hcm : Nm.May c := by rw [← hc]; exact Nm.countMay14 _ (by omega)
   have HL1 := Lib.hid (fun (W : World) h => of_any (vl.length : Int) W (by omega) (by omega) h)
   rw [show (Nm.parse (Lib.itoa (vl.length : Int))).1 = c from hc] at HL1
   obtain ⟨q, hq⟩ : ∃ q, Nm.cmp c n = q := ⟨_, rfl⟩
   obtain ⟨z, hz⟩ : ∃ z, decide (q < 0) = z := ⟨_, rfl⟩
   have HRES := Lib.hid (show Ow.fails nm (.mk k b n s l m) (.mk vk vb vn vs vl vm) = z by
    rw [hnm, ← hz, ← hq, ← Nm.refCmp_eq _ _ hcm HNK.out, ← hc, hk2]
    rfl)
   have HZB := Lib.hid (show (Value.bool z) = Value.bool (decide (q < 0)) by rw [hz])
   have HC := Lib.hid (fun (W : World) => cmp_any c.neg c.digits c.exp n.neg n.digits n.exp W hcm.fair HNK.out.fair)
   rw [show Nm.cmp ⟨c.neg, c.digits, c.exp⟩ ⟨n.neg, n.digits, n.exp⟩ = q from hq] at HC
   unfold numV at HL1
   clear hq hnm hk2 hc hcm hz
   have HBK := Lib.hid ((Blk.new w 43 #[.string ⟨nm.toArray⟩, .int .i64 k, .bool b, .bool n.neg, .string ⟨n.digits.toArray⟩, .int .i64 n.exp, .string ⟨s.toArray⟩, .slice A l.length e, .slice B m.length d, .slice A4 n4 c4]).alloc (.cells #[.int .i64 vk, .bool vb, .bool vn.neg, .string ⟨vn.digits.toArray⟩, .int .i64 vn.exp, .string ⟨vs.toArray⟩, .slice Av vl.length ev, .slice Bv vm.length dv] 31))
   have HBV := Lib.hid (Blk.new2 w (.cells #[.string ⟨nm.toArray⟩, .int .i64 k, .bool b, .bool n.neg, .string ⟨n.digits.toArray⟩, .int .i64 n.exp, .string ⟨s.toArray⟩, .slice A l.length e, .slice B m.length d, .slice A4 n4 c4] 43) 31 #[.int .i64 vk, .bool vb, .bool vn.neg, .string ⟨vn.digits.toArray⟩, .int .i64 vn.exp, .string ⟨vs.toArray⟩, .slice Av vl.length ev, .slice Bv vm.length dv])
   go_enter Tryz.func15, Tryz.ntmps15
   go_upto_region 17 with (fail)
   generalize (w.alloc (.cells #[.string ⟨nm.toArray⟩, .int .i64 k, .bool b, .bool n.neg, .string ⟨n.digits.toArray⟩, .int .i64 n.exp, .string ⟨s.toArray⟩, .slice A l.length e, .slice B m.length d, .slice A4 n4 c4] 43)).alloc (.cells #[.int .i64 vk, .bool vb, .bool vn.neg, .string ⟨vn.digits.toArray⟩, .int .i64 vn.exp, .string ⟨vs.toArray⟩, .slice Av vl.length ev, .slice Bv vm.length dv] 31) = w0 at *
   refine wp_region_held_drew (S := fun W9 => Below w0.heap.size w0 W9) (by kernel_rfl) (show Below w0.heap.size w0 w0.drew from below_drewN (Below.refl _ _) 1) (fun ht => ?_)
   generalize w0.drew = w8 at *
   refine wpAnyH_take (i := 0) (oi := ⟨some _, _, _, _, _, _⟩) (v := (.pointer (some ⟨w.heap.size + 1, 0, none⟩))) rfl (by kernel_rfl) (by kernel_rfl) (by kernel_rfl) (fun _ _ _ h => h) (Or.inl ⟨by rfl, ?_⟩) ht ?_
   ·intro W9 hSw
    go_simp
   try simp only [Act.put, List.setIfInBounds_toArray, List.set_cons_zero, List.set_cons_succ]
   refine wpAnyH_take (i := 1) (oi := ⟨some _, _, _, _, _, _⟩) (v := (.int .i64 vk)) rfl (by kernel_rfl) (by kernel_rfl) (by kernel_rfl) (fun _ _ _ h => h) (Or.inl ⟨by rfl, ?_⟩) ht ?_
   ·intro W9 hSw
    obtain ⟨b0, b1, b2, b3, b4, b5, b6, b7⟩ := (HBV.out.on hSw).eight
    have bl := (HBV.out.on hSw).lt
    go_simp
   try simp only [Act.put, List.setIfInBounds_toArray, List.set_cons_zero, List.set_cons_succ]
   refine wpAnyH_take (i := 2) (oi := ⟨some _, _, _, _, _, _⟩) (v := (.bool true)) rfl (by kernel_rfl) (by kernel_rfl) (by kernel_rfl) (fun _ _ _ h => h) (Or.inl ⟨by rfl, ?_⟩) ht ?_
   ·intro W9 hSw
    go_simp
   try simp only [Act.put, List.setIfInBounds_toArray, List.set_cons_zero, List.set_cons_succ]
   refine wpAnyH_take (i := 3) (oi := ⟨some _, _, _, _, _, _⟩) (v := (.bool true)) rfl (by kernel_rfl) (by kernel_rfl) (by kernel_rfl) (fun _ _ _ h => h) (Or.inl ⟨by rfl, ?_⟩) ht ?_
   ·intro W9 hSw
    go_simp
   try simp only [Act.put, List.setIfInBounds_toArray, List.set_cons_zero, List.set_cons_succ]
   refine wpAnyH_take (i := 4) (oi := ⟨some _, _, _, _, _, _⟩) (v := (.pointer (some ⟨w.heap.size + 1, 6, none⟩))) rfl (by kernel_rfl) (by kernel_rfl) (by kernel_rfl) (fun _ _ _ h => h) (Or.inl ⟨by rfl, ?_⟩) ht ?_
   ·intro W9 hSw
    go_simp
   try simp only [Act.put, List.setIfInBounds_toArray, List.set_cons_zero, List.set_cons_succ]
   refine wpAnyH_take (i := 5) (oi := ⟨some _, _, _, _, _, _⟩) (v := (.slice Av vl.length ev)) rfl (by kernel_rfl) (by kernel_rfl) (by kernel_rfl) (fun _ _ _ h => h) (Or.inl ⟨by rfl, ?_⟩) ht ?_
   ·intro W9 hSw
    obtain ⟨b0, b1, b2, b3, b4, b5, b6, b7⟩ := (HBV.out.on hSw).eight
    have bl := (HBV.out.on hSw).lt
    go_simp
   try simp only [Act.put, List.setIfInBounds_toArray, List.set_cons_zero, List.set_cons_succ]
   refine wpAnyH_take (i := 6) (oi := ⟨some _, _, _, _, _, _⟩) (v := (.int .i64 vl.length)) rfl (by kernel_rfl) (by kernel_rfl) (by kernel_rfl) (fun _ _ _ h => h) (Or.inl ⟨by rfl, ?_⟩) ht ?_
   ·intro W9 hSw
    go_simp
   try simp only [Act.put, List.setIfInBounds_toArray, List.set_cons_zero, List.set_cons_succ]
   refine wpAnyH_take (i := 8) (oi := ⟨some _, _, _, _, _, _⟩) (v := (.pointer (some ⟨w.heap.size, 1, none⟩))) rfl (by kernel_rfl) (by kernel_rfl) (by kernel_rfl) (fun _ _ _ h => h) (Or.inl ⟨by rfl, ?_⟩) ht ?_
   ·intro W9 hSw
    go_simp
   try simp only [Act.put, List.setIfInBounds_toArray, List.set_cons_zero, List.set_cons_succ]
   refine wpAnyH_take (i := 9) (oi := ⟨some _, _, _, _, _, _⟩) (v := (.pointer (some ⟨w.heap.size, 3, none⟩))) rfl (by kernel_rfl) (by kernel_rfl) (by kernel_rfl) (fun _ _ _ h => h) (Or.inl ⟨by rfl, ?_⟩) ht ?_
   ·intro W9 hSw
    go_simp
   try simp only [Act.put, List.setIfInBounds_toArray, List.set_cons_zero, List.set_cons_succ]
   refine wpAnyH_take (i := 10) (oi := ⟨some _, _, _, _, _, _⟩) (v := (.agg #[.bool n.neg, .string ⟨n.digits.toArray⟩, .int .i64 n.exp])) rfl (by kernel_rfl) (by kernel_rfl) (by kernel_rfl) (fun _ _ _ h => h) (Or.inl ⟨by rfl, ?_⟩) ht ?_
   ·intro W9 hSw
    obtain ⟨a0, a1, a2, a3, a4, a5, a6, a7, a8, a9⟩ := (HBK.out.on hSw).ten14
    have al := (HBK.out.on hSw).lt
    go_simp
   try simp only [Act.put, List.setIfInBounds_toArray, List.set_cons_zero, List.set_cons_succ]
   refine wpAnyH_ready (rs := [7]) (by kernel_rfl) (by simp) ?_
   refine AllReadyH.cons (o := ⟨some _, _, _, _, _, _⟩) rfl (fun K hK => ?_) (AllReadyH.nil)
   go_simp
   refine (HL1.out _ (HT.out.keep (HB0.out.trans (ht.mono HB0.out.size)))).mono ?_
   rintro e2 w2 ⟨rfl, hb2⟩
   have hs := ht.trans (hb2.mono ht.size)
   clear ht hb2
   go_wp2_with fail
   refine hK.out _ _ hs (fun ht => ?_)
   clear hK K hs
   try simp only [Act.put, List.setIfInBounds_toArray, List.set_cons_zero, List.set_cons_succ]
   refine wpAnyH_ready (rs := [11]) (by kernel_rfl) (by simp) ?_
   refine AllReadyH.cons (o := ⟨some _, _, _, _, _, _⟩) rfl (fun K hK => ?_) (AllReadyH.nil)
   go_simp
   refine (HC.out _).mono ?_
   rintro e3 w3 ⟨rfl, hb3⟩
   have hs := ht.trans (hb3.mono ht.size)
   clear ht hb3
   go_wp2_with fail
   refine hK.out _ _ hs (fun ht => ?_)
   clear hK K hs
   try simp only [Act.put, List.setIfInBounds_toArray, List.set_cons_zero, List.set_cons_succ]
   refine wpAnyH_take (i := 12) (oi := ⟨some _, _, _, _, _, _⟩) (v := (.bool z)) rfl (by kernel_rfl) (by kernel_rfl) (by kernel_rfl) (fun _ _ _ h => h) (Or.inl ⟨by rfl, ?_⟩) ht ?_
   ·intro W9 hSw
    rw [HZB.out]
    go_simp
   try simp only [Act.put, List.setIfInBounds_toArray, List.set_cons_zero, List.set_cons_succ]
   refine wpAnyH_take (i := 13) (oi := ⟨some _, _, _, _, _, _⟩) (v := (.bool z)) rfl (by kernel_rfl) (by kernel_rfl) (by kernel_rfl) (fun _ _ _ h => h) (Or.inl ⟨by rfl, ?_⟩) ht ?_
   ·intro W9 hSw
    go_simp
   try simp only [Act.put, List.setIfInBounds_toArray, List.set_cons_zero, List.set_cons_succ]
   refine wpAnyH_take (i := 14) (oi := ⟨some _, _, _, _, _, _⟩) (v := (.bool z)) rfl (by kernel_rfl) (by kernel_rfl) (by kernel_rfl) (fun _ _ _ h => h) (Or.inl ⟨by rfl, ?_⟩) ht ?_
   ·intro W9 hSw
    go_simp
   try simp only [Act.put, List.setIfInBounds_toArray, List.set_cons_zero, List.set_cons_succ]
   refine wpAnyH_done (by kernel_rfl) ?_ _
   have HB2 := Lib.hid (HB0.out.trans (ht.mono HB0.out.size))
   clear ht
   go_wp2_with fail
   go_ret
   exact ⟨by rw [HRES.out]; rfl, HB2.out⟩
  ·have g1 : (vk == 4) = false := by simpa using hk2
   have HRES := Lib.hid (show Ow.fails nm (.mk k b n s l m) (.mk vk vb vn vs vl vm) = false by rw [hnm]; simp [Ow.fails, Ow.kw14, Ow.keys14, Ow.failsOf, Sh.kindOf, hk2])
   clear hnm hk2
   have HBK := Lib.hid ((Blk.new w 43 #[.string ⟨nm.toArray⟩, .int .i64 k, .bool b, .bool n.neg, .string ⟨n.digits.toArray⟩, .int .i64 n.exp, .string ⟨s.toArray⟩, .slice A l.length e, .slice B m.length d, .slice A4 n4 c4]).alloc (.cells #[.int .i64 vk, .bool vb, .bool vn.neg, .string ⟨vn.digits.toArray⟩, .int .i64 vn.exp, .string ⟨vs.toArray⟩, .slice Av vl.length ev, .slice Bv vm.length dv] 31))
   have HBV := Lib.hid (Blk.new2 w (.cells #[.string ⟨nm.toArray⟩, .int .i64 k, .bool b, .bool n.neg, .string ⟨n.digits.toArray⟩, .int .i64 n.exp, .string ⟨s.toArray⟩, .slice A l.length e, .slice B m.length d, .slice A4 n4 c4] 43) 31 #[.int .i64 vk, .bool vb, .bool vn.neg, .string ⟨vn.digits.toArray⟩, .int .i64 vn.exp, .string ⟨vs.toArray⟩, .slice Av vl.length ev, .slice Bv vm.length dv])
   go_enter Tryz.func15, Tryz.ntmps15
   go_upto_region 17 with (fail)
   generalize (w.alloc (.cells #[.string ⟨nm.toArray⟩, .int .i64 k, .bool b, .bool n.neg, .string ⟨n.digits.toArray⟩, .int .i64 n.exp, .string ⟨s.toArray⟩, .slice A l.length e, .slice B m.length d, .slice A4 n4 c4] 43)).alloc (.cells #[.int .i64 vk, .bool vb, .bool vn.neg, .string ⟨vn.digits.toArray⟩, .int .i64 vn.exp, .string ⟨vs.toArray⟩, .slice Av vl.length ev, .slice Bv vm.length dv] 31) = w0 at *
   refine wp_region_held_drew (S := fun W9 => Below w0.heap.size w0 W9) (by kernel_rfl) (show Below w0.heap.size w0 w0.drew from below_drewN (Below.refl _ _) 1) (fun ht => ?_)
   generalize w0.drew = w8 at *
   refine wpAnyH_take (i := 0) (oi := ⟨some _, _, _, _, _, _⟩) (v := (.pointer (some ⟨w.heap.size + 1, 0, none⟩))) rfl (by kernel_rfl) (by kernel_rfl) (by kernel_rfl) (fun _ _ _ h => h) (Or.inl ⟨by rfl, ?_⟩) ht ?_
   ·intro W9 hSw
    go_simp
   try simp only [Act.put, List.setIfInBounds_toArray, List.set_cons_zero, List.set_cons_succ]
   refine wpAnyH_take (i := 1) (oi := ⟨some _, _, _, _, _, _⟩) (v := (.int .i64 vk)) rfl (by kernel_rfl) (by kernel_rfl) (by kernel_rfl) (fun _ _ _ h => h) (Or.inl ⟨by rfl, ?_⟩) ht ?_
   ·intro W9 hSw
    obtain ⟨b0, b1, b2, b3, b4, b5, b6, b7⟩ := (HBV.out.on hSw).eight
    have bl := (HBV.out.on hSw).lt
    go_simp
   try simp only [Act.put, List.setIfInBounds_toArray, List.set_cons_zero, List.set_cons_succ]
   refine wpAnyH_take (i := 2) (oi := ⟨some _, _, _, _, _, _⟩) (v := (.bool false)) rfl (by kernel_rfl) (by kernel_rfl) (by kernel_rfl) (fun _ _ _ h => h) (Or.inl ⟨by rfl, ?_⟩) ht ?_
   ·intro W9 hSw
    go_simp
   try simp only [Act.put, List.setIfInBounds_toArray, List.set_cons_zero, List.set_cons_succ]
   refine wpAnyH_take (i := 3) (oi := ⟨some _, _, _, _, _, _⟩) (v := (.bool false)) rfl (by kernel_rfl) (by kernel_rfl) (by kernel_rfl) (fun _ _ _ h => h) (Or.inl ⟨by rfl, ?_⟩) ht ?_
   ·intro W9 hSw
    go_simp
   try simp only [Act.put, List.setIfInBounds_toArray, List.set_cons_zero, List.set_cons_succ]
   refine wpAnyH_take (i := 4) (oi := ⟨some _, _, _, _, _, _⟩) (v := undef) rfl (by kernel_rfl) (by kernel_rfl) (by kernel_rfl) (fun _ _ _ h => h) (Or.inr ⟨by rfl, rfl⟩) ht ?_
   try simp only [Act.put, List.setIfInBounds_toArray, List.set_cons_zero, List.set_cons_succ]
   refine wpAnyH_take (i := 5) (oi := ⟨some _, _, _, _, _, _⟩) (v := undef) rfl (by kernel_rfl) (by kernel_rfl) (by kernel_rfl) (fun _ _ _ h => h) (Or.inr ⟨by rfl, rfl⟩) ht ?_
   try simp only [Act.put, List.setIfInBounds_toArray, List.set_cons_zero, List.set_cons_succ]
   refine wpAnyH_take (i := 6) (oi := ⟨some _, _, _, _, _, _⟩) (v := undef) rfl (by kernel_rfl) (by kernel_rfl) (by kernel_rfl) (fun _ _ _ h => h) (Or.inr ⟨by rfl, rfl⟩) ht ?_
   try simp only [Act.put, List.setIfInBounds_toArray, List.set_cons_zero, List.set_cons_succ]
   refine wpAnyH_take (i := 7) (oi := ⟨some _, _, _, _, _, _⟩) (v := undef) rfl (by kernel_rfl) (by kernel_rfl) (by kernel_rfl) (fun _ _ _ h => h) (Or.inr ⟨by rfl, rfl⟩) ht ?_
   try simp only [Act.put, List.setIfInBounds_toArray, List.set_cons_zero, List.set_cons_succ]
   refine wpAnyH_take (i := 8) (oi := ⟨some _, _, _, _, _, _⟩) (v := undef) rfl (by kernel_rfl) (by kernel_rfl) (by kernel_rfl) (fun _ _ _ h => h) (Or.inr ⟨by rfl, rfl⟩) ht ?_
   try simp only [Act.put, List.setIfInBounds_toArray, List.set_cons_zero, List.set_cons_succ]
   refine wpAnyH_take (i := 9) (oi := ⟨some _, _, _, _, _, _⟩) (v := undef) rfl (by kernel_rfl) (by kernel_rfl) (by kernel_rfl) (fun _ _ _ h => h) (Or.inr ⟨by rfl, rfl⟩) ht ?_
   try simp only [Act.put, List.setIfInBounds_toArray, List.set_cons_zero, List.set_cons_succ]
   refine wpAnyH_take (i := 10) (oi := ⟨some _, _, _, _, _, _⟩) (v := undef) rfl (by kernel_rfl) (by kernel_rfl) (by kernel_rfl) (fun _ _ _ h => h) (Or.inr ⟨by rfl, rfl⟩) ht ?_
   try simp only [Act.put, List.setIfInBounds_toArray, List.set_cons_zero, List.set_cons_succ]
   refine wpAnyH_take (i := 11) (oi := ⟨some _, _, _, _, _, _⟩) (v := undef) rfl (by kernel_rfl) (by kernel_rfl) (by kernel_rfl) (fun _ _ _ h => h) (Or.inr ⟨by rfl, rfl⟩) ht ?_
   try simp only [Act.put, List.setIfInBounds_toArray, List.set_cons_zero, List.set_cons_succ]
   refine wpAnyH_take (i := 12) (oi := ⟨some _, _, _, _, _, _⟩) (v := undef) rfl (by kernel_rfl) (by kernel_rfl) (by kernel_rfl) (fun _ _ _ h => h) (Or.inr ⟨by rfl, rfl⟩) ht ?_
   try simp only [Act.put, List.setIfInBounds_toArray, List.set_cons_zero, List.set_cons_succ]
   refine wpAnyH_take (i := 13) (oi := ⟨some _, _, _, _, _, _⟩) (v := (.bool false)) rfl (by kernel_rfl) (by kernel_rfl) (by kernel_rfl) (fun _ _ _ h => h) (Or.inl ⟨by rfl, ?_⟩) ht ?_
   ·intro W9 hSw
    go_simp
   try simp only [Act.put, List.setIfInBounds_toArray, List.set_cons_zero, List.set_cons_succ]
   refine wpAnyH_take (i := 14) (oi := ⟨some _, _, _, _, _, _⟩) (v := (.bool false)) rfl (by kernel_rfl) (by kernel_rfl) (by kernel_rfl) (fun _ _ _ h => h) (Or.inl ⟨by rfl, ?_⟩) ht ?_
   ·intro W9 hSw
    go_simp
   try simp only [Act.put, List.setIfInBounds_toArray, List.set_cons_zero, List.set_cons_succ]
   refine wpAnyH_done (by kernel_rfl) ?_ _
   have HB2 := Lib.hid (HB0.out.trans (ht.mono HB0.out.size))
   clear ht
   go_wp2_with fail
   go_ret
   exact ⟨by rw [HRES.out]; rfl, HB2.out⟩
 have f7 : (nm == [109, 105, 110, 73, 116, 101, 109, 115]) = false := by rw [beq_eq_false_iff_ne]; exact hnm
 clear hnm
 by_cases hnm : nm = [109, 97, 120, 73, 116, 101, 109, 115]
 ·have f8 : (nm == [109, 97, 120, 73, 116, 101, 109, 115]) = true := by rw [hnm]; rfl
  by_cases hk2 : vk = 4
  ·have g1 : (vk == 4) = true := by simpa using hk2
   obtain ⟨c, hc⟩ : ∃ c, Nm.count (vl.length : Int) = c := ⟨_, rfl⟩
   have hcm : Nm.May c := by rw [← hc]; exact Nm.countMay14 _ (by omega)
   have HL1 := Lib.hid (fun (W : World) h => of_any (vl.length : Int) W (by omega) (by omega) h)
   rw [show (Nm.parse (Lib.itoa (vl.length : Int))).1 = c from hc] at HL1
   obtain ⟨q, hq⟩ : ∃ q, Nm.cmp c n = q := ⟨_, rfl⟩
   obtain ⟨z, hz⟩ : ∃ z, decide (q > 0) = z := ⟨_, rfl⟩
   have HRES := Lib.hid (show Ow.fails nm (.mk k b n s l m) (.mk vk vb vn vs vl vm) = z by
    rw [hnm, ← hz, ← hq, ← Nm.refCmp_eq _ _ hcm HNK.out, ← hc, hk2]
    rfl)
   have HZB := Lib.hid (show (Value.bool z) = Value.bool (decide (q > 0)) by rw [hz])
   have HC := Lib.hid (fun (W : World) => cmp_any c.neg c.digits c.exp n.neg n.digits n.exp W hcm.fair HNK.out.fair)
   rw [show Nm.cmp ⟨c.neg, c.digits, c.exp⟩ ⟨n.neg, n.digits, n.exp⟩ = q from hq] at HC
   unfold numV at HL1
   clear hq hnm hk2 hc hcm hz
   have HBK := Lib.hid ((Blk.new w 43 #[.string ⟨nm.toArray⟩, .int .i64 k, .bool b, .bool n.neg, .string ⟨n.digits.toArray⟩, .int .i64 n.exp, .string ⟨s.toArray⟩, .slice A l.length e, .slice B m.length d, .slice A4 n4 c4]).alloc (.cells #[.int .i64 vk, .bool vb, .bool vn.neg, .string ⟨vn.digits.toArray⟩, .int .i64 vn.exp, .string ⟨vs.toArray⟩, .slice Av vl.length ev, .slice Bv vm.length dv] 31))
   have HBV := Lib.hid (Blk.new2 w (.cells #[.string ⟨nm.toArray⟩, .int .i64 k, .bool b, .bool n.neg, .string ⟨n.digits.toArray⟩, .int .i64 n.exp, .string ⟨s.toArray⟩, .slice A l.length e, .slice B m.length d, .slice A4 n4 c4] 43) 31 #[.int .i64 vk, .bool vb, .bool vn.neg, .string ⟨vn.digits.toArray⟩, .int .i64 vn.exp, .string ⟨vs.toArray⟩, .slice Av vl.length ev, .slice Bv vm.length dv])
   go_enter Tryz.func15, Tryz.ntmps15
   go_upto_region 19 with (fail)
   generalize (w.alloc (.cells #[.string ⟨nm.toArray⟩, .int .i64 k, .bool b, .bool n.neg, .string ⟨n.digits.toArray⟩, .int .i64 n.exp, .string ⟨s.toArray⟩, .slice A l.length e, .slice B m.length d, .slice A4 n4 c4] 43)).alloc (.cells #[.int .i64 vk, .bool vb, .bool vn.neg, .string ⟨vn.digits.toArray⟩, .int .i64 vn.exp, .string ⟨vs.toArray⟩, .slice Av vl.length ev, .slice Bv vm.length dv] 31) = w0 at *
   refine wp_region_held_drew (S := fun W9 => Below w0.heap.size w0 W9) (by kernel_rfl) (show Below w0.heap.size w0 w0.drew from below_drewN (Below.refl _ _) 1) (fun ht => ?_)
   generalize w0.drew = w8 at *
   refine wpAnyH_take (i := 0) (oi := ⟨some _, _, _, _, _, _⟩) (v := (.pointer (some ⟨w.heap.size + 1, 0, none⟩))) rfl (by kernel_rfl) (by kernel_rfl) (by kernel_rfl) (fun _ _ _ h => h) (Or.inl ⟨by rfl, ?_⟩) ht ?_
   ·intro W9 hSw
    go_simp
   try simp only [Act.put, List.setIfInBounds_toArray, List.set_cons_zero, List.set_cons_succ]
   refine wpAnyH_take (i := 1) (oi := ⟨some _, _, _, _, _, _⟩) (v := (.int .i64 vk)) rfl (by kernel_rfl) (by kernel_rfl) (by kernel_rfl) (fun _ _ _ h => h) (Or.inl ⟨by rfl, ?_⟩) ht ?_
   ·intro W9 hSw
    obtain ⟨b0, b1, b2, b3, b4, b5, b6, b7⟩ := (HBV.out.on hSw).eight
    have bl := (HBV.out.on hSw).lt
    go_simp
   try simp only [Act.put, List.setIfInBounds_toArray, List.set_cons_zero, List.set_cons_succ]
   refine wpAnyH_take (i := 2) (oi := ⟨some _, _, _, _, _, _⟩) (v := (.bool true)) rfl (by kernel_rfl) (by kernel_rfl) (by kernel_rfl) (fun _ _ _ h => h) (Or.inl ⟨by rfl, ?_⟩) ht ?_
   ·intro W9 hSw
    go_simp
   try simp only [Act.put, List.setIfInBounds_toArray, List.set_cons_zero, List.set_cons_succ]
   refine wpAnyH_take (i := 3) (oi := ⟨some _, _, _, _, _, _⟩) (v := (.bool true)) rfl (by kernel_rfl) (by kernel_rfl) (by kernel_rfl) (fun _ _ _ h => h) (Or.inl ⟨by rfl, ?_⟩) ht ?_
   ·intro W9 hSw
    go_simp
   try simp only [Act.put, List.setIfInBounds_toArray, List.set_cons_zero, List.set_cons_succ]
   refine wpAnyH_take (i := 4) (oi := ⟨some _, _, _, _, _, _⟩) (v := (.pointer (some ⟨w.heap.size + 1, 6, none⟩))) rfl (by kernel_rfl) (by kernel_rfl) (by kernel_rfl) (fun _ _ _ h => h) (Or.inl ⟨by rfl, ?_⟩) ht ?_
   ·intro W9 hSw
    go_simp
   try simp only [Act.put, List.setIfInBounds_toArray, List.set_cons_zero, List.set_cons_succ]
   refine wpAnyH_take (i := 5) (oi := ⟨some _, _, _, _, _, _⟩) (v := (.slice Av vl.length ev)) rfl (by kernel_rfl) (by kernel_rfl) (by kernel_rfl) (fun _ _ _ h => h) (Or.inl ⟨by rfl, ?_⟩) ht ?_
   ·intro W9 hSw
    obtain ⟨b0, b1, b2, b3, b4, b5, b6, b7⟩ := (HBV.out.on hSw).eight
    have bl := (HBV.out.on hSw).lt
    go_simp
   try simp only [Act.put, List.setIfInBounds_toArray, List.set_cons_zero, List.set_cons_succ]
   refine wpAnyH_take (i := 6) (oi := ⟨some _, _, _, _, _, _⟩) (v := (.int .i64 vl.length)) rfl (by kernel_rfl) (by kernel_rfl) (by kernel_rfl) (fun _ _ _ h => h) (Or.inl ⟨by rfl, ?_⟩) ht ?_
   ·intro W9 hSw
    go_simp
   try simp only [Act.put, List.setIfInBounds_toArray, List.set_cons_zero, List.set_cons_succ]
   refine wpAnyH_take (i := 8) (oi := ⟨some _, _, _, _, _, _⟩) (v := (.pointer (some ⟨w.heap.size, 1, none⟩))) rfl (by kernel_rfl) (by kernel_rfl) (by kernel_rfl) (fun _ _ _ h => h) (Or.inl ⟨by rfl, ?_⟩) ht ?_
   ·intro W9 hSw
    go_simp
   try simp only [Act.put, List.setIfInBounds_toArray, List.set_cons_zero, List.set_cons_succ]
   refine wpAnyH_take (i := 9) (oi := ⟨some _, _, _, _, _, _⟩) (v := (.pointer (some ⟨w.heap.size, 3, none⟩))) rfl (by kernel_rfl) (by kernel_rfl) (by kernel_rfl) (fun _ _ _ h => h) (Or.inl ⟨by rfl, ?_⟩) ht ?_
   ·intro W9 hSw
    go_simp
   try simp only [Act.put, List.setIfInBounds_toArray, List.set_cons_zero, List.set_cons_succ]
   refine wpAnyH_take (i := 10) (oi := ⟨some _, _, _, _, _, _⟩) (v := (.agg #[.bool n.neg, .string ⟨n.digits.toArray⟩, .int .i64 n.exp])) rfl (by kernel_rfl) (by kernel_rfl) (by kernel_rfl) (fun _ _ _ h => h) (Or.inl ⟨by rfl, ?_⟩) ht ?_
   ·intro W9 hSw
    obtain ⟨a0, a1, a2, a3, a4, a5, a6, a7, a8, a9⟩ := (HBK.out.on hSw).ten14
    have al := (HBK.out.on hSw).lt
    go_simp
   try simp only [Act.put, List.setIfInBounds_toArray, List.set_cons_zero, List.set_cons_succ]
   refine wpAnyH_ready (rs := [7]) (by kernel_rfl) (by simp) ?_
   refine AllReadyH.cons (o := ⟨some _, _, _, _, _, _⟩) rfl (fun K hK => ?_) (AllReadyH.nil)
   go_simp
   refine (HL1.out _ (HT.out.keep (HB0.out.trans (ht.mono HB0.out.size)))).mono ?_
   rintro e2 w2 ⟨rfl, hb2⟩
   have hs := ht.trans (hb2.mono ht.size)
   clear ht hb2
   go_wp2_with fail
   refine hK.out _ _ hs (fun ht => ?_)
   clear hK K hs
   try simp only [Act.put, List.setIfInBounds_toArray, List.set_cons_zero, List.set_cons_succ]
   refine wpAnyH_ready (rs := [11]) (by kernel_rfl) (by simp) ?_
   refine AllReadyH.cons (o := ⟨some _, _, _, _, _, _⟩) rfl (fun K hK => ?_) (AllReadyH.nil)
   go_simp
   refine (HC.out _).mono ?_
   rintro e3 w3 ⟨rfl, hb3⟩
   have hs := ht.trans (hb3.mono ht.size)
   clear ht hb3
   go_wp2_with fail
   refine hK.out _ _ hs (fun ht => ?_)
   clear hK K hs
   try simp only [Act.put, List.setIfInBounds_toArray, List.set_cons_zero, List.set_cons_succ]
   refine wpAnyH_take (i := 12) (oi := ⟨some _, _, _, _, _, _⟩) (v := (.bool z)) rfl (by kernel_rfl) (by kernel_rfl) (by kernel_rfl) (fun _ _ _ h => h) (Or.inl ⟨by rfl, ?_⟩) ht ?_
   ·intro W9 hSw
    rw [HZB.out]
    go_simp
   try simp only [Act.put, List.setIfInBounds_toArray, List.set_cons_zero, List.set_cons_succ]
   refine wpAnyH_take (i := 13) (oi := ⟨some _, _, _, _, _, _⟩) (v := (.bool z)) rfl (by kernel_rfl) (by kernel_rfl) (by kernel_rfl) (fun _ _ _ h => h) (Or.inl ⟨by rfl, ?_⟩) ht ?_
   ·intro W9 hSw
    go_simp
   try simp only [Act.put, List.setIfInBounds_toArray, List.set_cons_zero, List.set_cons_succ]
   refine wpAnyH_take (i := 14) (oi := ⟨some _, _, _, _, _, _⟩) (v := (.bool z)) rfl (by kernel_rfl) (by kernel_rfl) (by kernel_rfl) (fun _ _ _ h => h) (Or.inl ⟨by rfl, ?_⟩) ht ?_
   ·intro W9 hSw
    go_simp
   try simp only [Act.put, List.setIfInBounds_toArray, List.set_cons_zero, List.set_cons_succ]
   refine wpAnyH_done (by kernel_rfl) ?_ _
   have HB2 := Lib.hid (HB0.out.trans (ht.mono HB0.out.size))
   clear ht
   go_wp2_with fail
   go_ret
   exact ⟨by rw [HRES.out]; rfl, HB2.out⟩
  ·have g1 : (vk == 4) = false := by simpa using hk2
   have HRES := Lib.hid (show Ow.fails nm (.mk k b n s l m) (.mk vk vb vn vs vl vm) = false by rw [hnm]; simp [Ow.fails, Ow.kw14, Ow.keys14, Ow.failsOf, Sh.kindOf, hk2])
   clear hnm hk2
   have HBK := Lib.hid ((Blk.new w 43 #[.string ⟨nm.toArray⟩, .int .i64 k, .bool b, .bool n.neg, .string ⟨n.digits.toArray⟩, .int .i64 n.exp, .string ⟨s.toArray⟩, .slice A l.length e, .slice B m.length d, .slice A4 n4 c4]).alloc (.cells #[.int .i64 vk, .bool vb, .bool vn.neg, .string ⟨vn.digits.toArray⟩, .int .i64 vn.exp, .string ⟨vs.toArray⟩, .slice Av vl.length ev, .slice Bv vm.length dv] 31))
   have HBV := Lib.hid (Blk.new2 w (.cells #[.string ⟨nm.toArray⟩, .int .i64 k, .bool b, .bool n.neg, .string ⟨n.digits.toArray⟩, .int .i64 n.exp, .string ⟨s.toArray⟩, .slice A l.length e, .slice B m.length d, .slice A4 n4 c4] 43) 31 #[.int .i64 vk, .bool vb, .bool vn.neg, .string ⟨vn.digits.toArray⟩, .int .i64 vn.exp, .string ⟨vs.toArray⟩, .slice Av vl.length ev, .slice Bv vm.length dv])
   go_enter Tryz.func15, Tryz.ntmps15
   go_upto_region 19 with (fail)
   generalize (w.alloc (.cells #[.string ⟨nm.toArray⟩, .int .i64 k, .bool b, .bool n.neg, .string ⟨n.digits.toArray⟩, .int .i64 n.exp, .string ⟨s.toArray⟩, .slice A l.length e, .slice B m.length d, .slice A4 n4 c4] 43)).alloc (.cells #[.int .i64 vk, .bool vb, .bool vn.neg, .string ⟨vn.digits.toArray⟩, .int .i64 vn.exp, .string ⟨vs.toArray⟩, .slice Av vl.length ev, .slice Bv vm.length dv] 31) = w0 at *
   refine wp_region_held_drew (S := fun W9 => Below w0.heap.size w0 W9) (by kernel_rfl) (show Below w0.heap.size w0 w0.drew from below_drewN (Below.refl _ _) 1) (fun ht => ?_)
   generalize w0.drew = w8 at *
   refine wpAnyH_take (i := 0) (oi := ⟨some _, _, _, _, _, _⟩) (v := (.pointer (some ⟨w.heap.size + 1, 0, none⟩))) rfl (by kernel_rfl) (by kernel_rfl) (by kernel_rfl) (fun _ _ _ h => h) (Or.inl ⟨by rfl, ?_⟩) ht ?_
   ·intro W9 hSw
    go_simp
   try simp only [Act.put, List.setIfInBounds_toArray, List.set_cons_zero, List.set_cons_succ]
   refine wpAnyH_take (i := 1) (oi := ⟨some _, _, _, _, _, _⟩) (v := (.int .i64 vk)) rfl (by kernel_rfl) (by kernel_rfl) (by kernel_rfl) (fun _ _ _ h => h) (Or.inl ⟨by rfl, ?_⟩) ht ?_
   ·intro W9 hSw
    obtain ⟨b0, b1, b2, b3, b4, b5, b6, b7⟩ := (HBV.out.on hSw).eight
    have bl := (HBV.out.on hSw).lt
    go_simp
   try simp only [Act.put, List.setIfInBounds_toArray, List.set_cons_zero, List.set_cons_succ]
   refine wpAnyH_take (i := 2) (oi := ⟨some _, _, _, _, _, _⟩) (v := (.bool false)) rfl (by kernel_rfl) (by kernel_rfl) (by kernel_rfl) (fun _ _ _ h => h) (Or.inl ⟨by rfl, ?_⟩) ht ?_
   ·intro W9 hSw
    go_simp
   try simp only [Act.put, List.setIfInBounds_toArray, List.set_cons_zero, List.set_cons_succ]
   refine wpAnyH_take (i := 3) (oi := ⟨some _, _, _, _, _, _⟩) (v := (.bool false)) rfl (by kernel_rfl) (by kernel_rfl) (by kernel_rfl) (fun _ _ _ h => h) (Or.inl ⟨by rfl, ?_⟩) ht ?_
   ·intro W9 hSw
    go_simp
   try simp only [Act.put, List.setIfInBounds_toArray, List.set_cons_zero, List.set_cons_succ]
   refine wpAnyH_take (i := 4) (oi := ⟨some _, _, _, _, _, _⟩) (v := undef) rfl (by kernel_rfl) (by kernel_rfl) (by kernel_rfl) (fun _ _ _ h => h) (Or.inr ⟨by rfl, rfl⟩) ht ?_
   try simp only [Act.put, List.setIfInBounds_toArray, List.set_cons_zero, List.set_cons_succ]
   refine wpAnyH_take (i := 5) (oi := ⟨some _, _, _, _, _, _⟩) (v := undef) rfl (by kernel_rfl) (by kernel_rfl) (by kernel_rfl) (fun _ _ _ h => h) (Or.inr ⟨by rfl, rfl⟩) ht ?_
   try simp only [Act.put, List.setIfInBounds_toArray, List.set_cons_zero, List.set_cons_succ]
   refine wpAnyH_take (i := 6) (oi := ⟨some _, _, _, _, _, _⟩) (v := undef) rfl (by kernel_rfl) (by kernel_rfl) (by kernel_rfl) (fun _ _ _ h => h) (Or.inr ⟨by rfl, rfl⟩) ht ?_
   try simp only [Act.put, List.setIfInBounds_toArray, List.set_cons_zero, List.set_cons_succ]
   refine wpAnyH_take (i := 7) (oi := ⟨some _, _, _, _, _, _⟩) (v := undef) rfl (by kernel_rfl) (by kernel_rfl) (by kernel_rfl) (fun _ _ _ h => h) (Or.inr ⟨by rfl, rfl⟩) ht ?_
   try simp only [Act.put, List.setIfInBounds_toArray, List.set_cons_zero, List.set_cons_succ]
   refine wpAnyH_take (i := 8) (oi := ⟨some _, _, _, _, _, _⟩) (v := undef) rfl (by kernel_rfl) (by kernel_rfl) (by kernel_rfl) (fun _ _ _ h => h) (Or.inr ⟨by rfl, rfl⟩) ht ?_
   try simp only [Act.put, List.setIfInBounds_toArray, List.set_cons_zero, List.set_cons_succ]
   refine wpAnyH_take (i := 9) (oi := ⟨some _, _, _, _, _, _⟩) (v := undef) rfl (by kernel_rfl) (by kernel_rfl) (by kernel_rfl) (fun _ _ _ h => h) (Or.inr ⟨by rfl, rfl⟩) ht ?_
   try simp only [Act.put, List.setIfInBounds_toArray, List.set_cons_zero, List.set_cons_succ]
   refine wpAnyH_take (i := 10) (oi := ⟨some _, _, _, _, _, _⟩) (v := undef) rfl (by kernel_rfl) (by kernel_rfl) (by kernel_rfl) (fun _ _ _ h => h) (Or.inr ⟨by rfl, rfl⟩) ht ?_
   try simp only [Act.put, List.setIfInBounds_toArray, List.set_cons_zero, List.set_cons_succ]
   refine wpAnyH_take (i := 11) (oi := ⟨some _, _, _, _, _, _⟩) (v := undef) rfl (by kernel_rfl) (by kernel_rfl) (by kernel_rfl) (fun _ _ _ h => h) (Or.inr ⟨by rfl, rfl⟩) ht ?_
   try simp only [Act.put, List.setIfInBounds_toArray, List.set_cons_zero, List.set_cons_succ]
   refine wpAnyH_take (i := 12) (oi := ⟨some _, _, _, _, _, _⟩) (v := undef) rfl (by kernel_rfl) (by kernel_rfl) (by kernel_rfl) (fun _ _ _ h => h) (Or.inr ⟨by rfl, rfl⟩) ht ?_
   try simp only [Act.put, List.setIfInBounds_toArray, List.set_cons_zero, List.set_cons_succ]
   refine wpAnyH_take (i := 13) (oi := ⟨some _, _, _, _, _, _⟩) (v := (.bool false)) rfl (by kernel_rfl) (by kernel_rfl) (by kernel_rfl) (fun _ _ _ h => h) (Or.inl ⟨by rfl, ?_⟩) ht ?_
   ·intro W9 hSw
    go_simp
   try simp only [Act.put, List.setIfInBounds_toArray, List.set_cons_zero, List.set_cons_succ]
   refine wpAnyH_take (i := 14) (oi := ⟨some _, _, _, _, _, _⟩) (v := (.bool false)) rfl (by kernel_rfl) (by kernel_rfl) (by kernel_rfl) (fun _ _ _ h => h) (Or.inl ⟨by rfl, ?_⟩) ht ?_
   ·intro W9 hSw
    go_simp
   try simp only [Act.put, List.setIfInBounds_toArray, List.set_cons_zero, List.set_cons_succ]
   refine wpAnyH_done (by kernel_rfl) ?_ _
   have HB2 := Lib.hid (HB0.out.trans (ht.mono HB0.out.size))
   clear ht
   go_wp2_with fail
   go_ret
   exact ⟨by rw [HRES.out]; rfl, HB2.out⟩
 have f8 : (nm == [109, 97, 120, 73, 116, 101, 109, 115]) = false := by rw [beq_eq_false_iff_ne]; exact hnm
 clear hnm
 by_cases hnm : nm = [117, 110, 105, 113, 117, 101, 73, 116, 101, 109, 115]
 ·have f9 : (nm == [117, 110, 105, 113, 117, 101, 73, 116, 101, 109, 115]) = true := by rw [hnm]; rfl
  have HXV0 := Lib.hid (In.keep (le_below HB0.out) _ _ HXV.out)
  have HXK0 := Lib.hid (In.keep (le_below HB0.out) _ _ HXK.out)
  have HLK0 := Lib.hid (HLK.out.keep (le_below HB0.out))
  have HLV0 := Lib.hid (HLV.out.keep (le_below HB0.out))
  cases b with
  | false =>
   have HRES := Lib.hid (show Ow.fails nm (.mk k false n s l m) (.mk vk vb vn vs vl vm) = false by rw [hnm]; simp [Ow.fails, Ow.kw14, Ow.keys14, Ow.failsOf, Ow.boolOf])
   clear hnm
   go_enter Tryz.func15, Tryz.ntmps15
   go_wp2_with fail
   go_ret
   exact ⟨by rw [HRES.out]; rfl, HB0.out⟩
  | true =>
   by_cases hk2 : vk = 4
   ·have g1 : (vk == 4) = true := by simpa using hk2
    have HC := Lib.hid (fun (W : World) h1 => haveSame_any vl Av ev W h1 HMVL.out hvl)
    obtain ⟨q, hq⟩ : ∃ q, Ow.dup [] vl = q := ⟨_, rfl⟩
    have HRES := Lib.hid (show Ow.fails nm (.mk k true n s l m) (.mk vk vb vn vs vl vm) = q by rw [hnm, ← hq]; show (Ow.dup [] vl && true) = _; rw [Bool.and_true])
    rw [hq] at HC
    clear hq hnm hk2
    go_enter Tryz.func15, Tryz.ntmps15
    go_wp2_with fail
    refine (HC.out _ HLV0.out).mono ?_
    rintro e2 w2 ⟨rfl, hb2⟩
    have HB2 := Lib.hid (HB0.out.trans (hb2.mono HB0.out.size))
    clear hb2
    go_wp2_with fail
    go_ret
    exact ⟨by rw [HRES.out]; rfl, HB2.out⟩

   ·have g1 : (vk == 4) = false := by simpa using hk2
    have HRES := Lib.hid (show Ow.fails nm (.mk k true n s l m) (.mk vk vb vn vs vl vm) = false by
     rw [hnm, HVL4.out hk2]; rfl)
    clear hnm hk2
    go_enter Tryz.func15, Tryz.ntmps15
    go_wp2_with fail
    go_ret
    exact ⟨by rw [HRES.out]; rfl, HB0.out⟩
 have f9 : (nm == [117, 110, 105, 113, 117, 101, 73, 116, 101, 109, 115]) = false := by rw [beq_eq_false_iff_ne]; exact hnm
 clear hnm
 by_cases hnm : nm = [114, 101, 113, 117, 105, 114, 101, 100]
 ·have f10 : (nm == [114, 101, 113, 117, 105, 114, 101, 100]) = true := by rw [hnm]; rfl
  have HXV0 := Lib.hid (In.keep (le_below HB0.out) _ _ HXV.out)
  have HXK0 := Lib.hid (In.keep (le_below HB0.out) _ _ HXK.out)
  have HLK0 := Lib.hid (HLK.out.keep (le_below HB0.out))
  have HLV0 := Lib.hid (HLV.out.keep (le_below HB0.out))
  by_cases hk2 : vk = 5
  ·have g1 : (vk == 5) = true := by simpa using hk2
   have HC := Lib.hid (fun (W : World) h1 h2 => lacks_any (.mk vk vb vn vs vl vm) l (.agg #[.int .i64 vk, .bool vb, .bool vn.neg, .string ⟨vn.digits.toArray⟩, .int .i64 vn.exp, .string ⟨vs.toArray⟩, .slice Av vl.length ev, .slice Bv vm.length dv]) A e W HMV.out HSZ.out HMKL.out h1 h2 HQ.out.1 HQ.out.2)
   obtain ⟨q, hq⟩ : ∃ q, (l.any fun u => ((Vl.mk vk vb vn vs vl vm).find (Sh.strOf u)).isNone) = q := ⟨_, rfl⟩
   have HRES := Lib.hid (show Ow.fails nm (.mk k b n s l m) (.mk vk vb vn vs vl vm) = q by rw [hnm, ← hq, hk2]; rfl)
   rw [hq] at HC
   clear hq hnm hk2
   go_enter Tryz.func15, Tryz.ntmps15
   go_wp2_with fail
   refine (HC.out _ HXV0.out HLK0.out).mono ?_
   rintro e2 w2 ⟨rfl, hb2⟩
   have HB2 := Lib.hid (HB0.out.trans (hb2.mono HB0.out.size))
   clear hb2
   go_wp2_with fail
   go_ret
   exact ⟨by rw [HRES.out]; rfl, HB2.out⟩
  ·have g1 : (vk == 5) = false := by simpa using hk2
   have HRES := Lib.hid (show Ow.fails nm (.mk k b n s l m) (.mk vk vb vn vs vl vm) = false by rw [hnm]; simp [Ow.fails, Ow.kw14, Ow.keys14, Ow.failsOf, Sh.kindOf, hk2])
   clear hnm hk2
   go_enter Tryz.func15, Tryz.ntmps15
   go_wp2_with fail
   go_ret
   exact ⟨by rw [HRES.out]; rfl, HB0.out⟩
 have f10 : (nm == [114, 101, 113, 117, 105, 114, 101, 100]) = false := by rw [beq_eq_false_iff_ne]; exact hnm
 clear hnm
 have hno : ∀ x ∈ Ow.keys14.map (·.1), nm ≠ x := fun x hx => by
  simp only [Ow.keys14, List.map_cons, List.map_nil, List.mem_cons, List.not_mem_nil, or_false] at hx
  rcases hx with rfl | rfl | rfl | rfl | rfl | rfl | rfl | rfl | rfl | rfl | rfl
  ·exact beq_eq_false_iff_ne.1 f0
  ·exact beq_eq_false_iff_ne.1 f1
  ·exact beq_eq_false_iff_ne.1 f2
  ·exact beq_eq_false_iff_ne.1 f3
  ·exact beq_eq_false_iff_ne.1 f4
  ·exact beq_eq_false_iff_ne.1 f5
  ·exact beq_eq_false_iff_ne.1 f6
  ·exact beq_eq_false_iff_ne.1 f7
  ·exact beq_eq_false_iff_ne.1 f8
  ·exact beq_eq_false_iff_ne.1 f9
  ·exact beq_eq_false_iff_ne.1 f10
 have HRES := Lib.hid (show Ow.fails nm (.mk k b n s l m) (.mk vk vb vn vs vl vm) = false by
  unfold Ow.fails
  rw [Ow.kw14_no hno]
  rfl)
 clear hno
 go_enter Tryz.func15, Tryz.ntmps15
 go_wp2_with fail
 go_ret
 exact ⟨by rw [HRES.out]; rfl, HB0.out⟩

end Go.Proofs.YtolkfgikomminaaGreatDoor

namespace Go.Proofs.YtolkfgikomminaaGreatDoor
open Go.RowKit Js Pt

set_option linter.unusedVariables false in
set_option linter.unusedSimpArgs false in
set_option maxRecDepth 100000 in
set_option maxHeartbeats 4000000 in
theorem ownOfBool_any (pass : Bool) (w : World) : Calls Tryz.prog 14 #[.bool pass] w fun e w' => ∃ (A : Option Addr) (c : Nat), e = .returned (.slice A (if pass = true then [] else [Ow.kFalse]).length c) ∧ StrsAt w' w.heap.size A c (if pass = true then [] else [Ow.kFalse]) ∧ Below w.heap.size w w' := by
 cases pass with
 | true =>
  have HZ := Lib.hid (StrsAt.nil w w.heap.size)
  go_enter Tryz.func14, Tryz.ntmps14
  go_wp2_with fail
  go_ret
  exact ⟨none, 0, rfl, HZ.out, Below.refl _ _⟩
 | false =>
  have HSA := Lib.hid (show StrsAt (w.alloc (.cells #[.string ⟨#[102, 97, 108, 115, 101]⟩] 9)) w.heap.size (some ⟨w.heap.size, 0, none⟩) 1 [Ow.kFalse] from ⟨rfl, .inr ⟨_, _, _, rfl, Nat.le_refl _, Blk.new w _ _, Nat.le_refl _, by unfold maxLen; omega, rfl, rfl⟩⟩)
  have HB1 := Lib.hid ((Below.refl w.heap.size w).alloc (Nat.le_refl _) (.cells #[.string ⟨#[102, 97, 108, 115, 101]⟩] 9))
  go_enter Tryz.func14, Tryz.ntmps14
  go_wp2_with fail
  go_ret
  exact ⟨_, 1, rfl, HSA.out, HB1.out⟩

set_option linter.unusedVariables false in
set_option linter.unusedSimpArgs false in
set_option maxRecDepth 100000 in
set_option maxHeartbeats 4000000 in
theorem own14_any (P : Cm.Names) (tx : List UInt8) (nall npass : Bool) (keys : List Cm.Key) (A2 : Option Addr) (c2 : Nat) (v : Vl) (xv : Value) (w : World) (htab : Tab w) (hk : SlKey w.cell? A2 keys) (h1 : keys.length ≤ c2) (h2 : c2 ≤ maxLen) (h3 : keys.length ≤ 1000000) (h4 : ∀ K ∈ keys, Wide K.v) (hwv : Wide v) (hxv : v.In w.cell? xv) (hall : nall = true → keys = []) :
  Calls Tryz.prog 9 #[.agg #[.string ⟨tx.toArray⟩, .bool nall, .bool npass, .slice A2 keys.length c2], xv] w fun e w' => ∃ (A : Option Addr) (c : Nat), e = .returned (.slice A (Ow.own ⟨P, nall, npass, keys⟩ v).length c) ∧ StrsAt w' w.heap.size A c (Ow.own ⟨P, nall, npass, keys⟩ v) ∧ Below w.heap.size w w' := by
 obtain ⟨v_1, v_2, v_3, v_4, v_5, v_6, v_7, v_8, v_9, v_a, v_b, v_c, rfl⟩ := In.cells hxv
 have HK := Lib.hid hk
 have H4 := Lib.hid h4
 have HXV := Lib.hid hxv
 have HWV := Lib.hid hwv
 have HT0 := Lib.hid htab
 unfold maxLen at h2
 have HB0 := Lib.hid (((Below.refl w.heap.size w).alloc (Nat.le_refl _) (.cells #[.string ⟨tx.toArray⟩, .bool nall, .bool npass, .slice A2 keys.length c2] 39)).alloc (by simp) (.cells #[.int .i64 v_1, .bool v_2, .bool v_3, .string ⟨v_4.toArray⟩, .int .i64 v_5, .string ⟨v_6.toArray⟩, .slice v_7 v_8 v_9, .slice v_a v_b v_c] 31))
 have HN0 := Lib.hid ((Blk.new w 39 #[.string ⟨tx.toArray⟩, .bool nall, .bool npass, .slice A2 keys.length c2]).alloc (.cells #[.int .i64 v_1, .bool v_2, .bool v_3, .string ⟨v_4.toArray⟩, .int .i64 v_5, .string ⟨v_6.toArray⟩, .slice v_7 v_8 v_9, .slice v_a v_b v_c] 31))
 have HV0 := Lib.hid (Blk.new2 w (.cells #[.string ⟨tx.toArray⟩, .bool nall, .bool npass, .slice A2 keys.length c2] 39) 31 #[.int .i64 v_1, .bool v_2, .bool v_3, .string ⟨v_4.toArray⟩, .int .i64 v_5, .string ⟨v_6.toArray⟩, .slice v_7 v_8 v_9, .slice v_a v_b v_c])
 clear hk h4 hwv hxv htab
 cases nall with
 | true =>
  have hk0 := hall rfl
  subst hk0
  have HCO := Lib.hid (show Ow.own ⟨P, true, npass, []⟩ v = if npass = true then [] else [Ow.kFalse] by
   unfold Ow.own
   cases npass <;> simp)
  have HBO := Lib.hid (fun W => ownOfBool_any npass W)
  generalize (if npass = true then [] else [Ow.kFalse]) = r at *
  clear hall
  go_enter Tryz.func9, Tryz.ntmps9
  go_wp2_with fail
  refine (HBO.out _).mono ?_
  rintro e1 w1 ⟨A, c, rfl, hs1, hb1⟩
  have HS1 := Lib.hid (hs1.less HB0.out.size)
  have HB1 := Lib.hid (HB0.out.trans (hb1.mono HB0.out.size))
  clear hs1 hb1
  go_wp2_with fail
  go_ret
  exact ⟨A, c, by rw [HCO.out]; rfl, by rw [HCO.out]; exact HS1.out, HB1.out⟩
 | false =>
 clear hall
 have HCO := Lib.hid (show Ow.own ⟨P, false, npass, keys⟩ v = Ow.failing keys v by
  unfold Ow.own
  simp
  rfl)
 go_enter Tryz.func9, Tryz.ntmps9
 go_wp2_with fail
 generalize (w.alloc (.cells #[.string ⟨tx.toArray⟩, .bool false, .bool npass, .slice A2 keys.length c2] 39)).alloc (.cells #[.int .i64 v_1, .bool v_2, .bool v_3, .string ⟨v_4.toArray⟩, .int .i64 v_5, .string ⟨v_6.toArray⟩, .slice v_7 v_8 v_9, .slice v_a v_b v_c] 31) = ws at *
 have HZ := Lib.hid (StrsAt.nil ws ws.heap.size)
 have HT := Lib.hid (HT0.out.keep HB0.out)
 go_loopw [5, 16] (fun o5 i6 wr => ∃ (q : Nat) (A5 : Option Addr) (c5 : Nat) (t : List (List UInt8)), o5 = .slice A5 t.length c5 ∧ i6 = .int .i64 q ∧ q ≤ keys.length ∧ t = Ow.failing (keys.take q) v ∧ Below ws.heap.size ws wr ∧ StrsAt wr ws.heap.size A5 c5 t) (fun _ i6 _ => keys.length - (intOf i6).toNat)
 case atStart => exact ⟨0, none, 0, [], rfl, rfl, Nat.zero_le _, rfl, Below.refl _ _, HZ.out⟩
 case round =>
  obtain ⟨q, A5, c5, t, rfl, rfl, hkq, ht, hbr, hsr⟩ := hrel
  obtain ⟨wz, hwz⟩ : ∃ W, W = wr := ⟨_, rfl⟩
  subst hwz
  have HBR := Lib.hid hbr
  have HSR := Lib.hid hsr
  have HTE := Lib.hid ht
  have HBW := Lib.hid (HB0.out.trans (hbr.mono HB0.out.size))
  clear hbr hsr ht HZ
  obtain ⟨z0, z1, z2, z3, z4, z5, z6, z7⟩ := (HV0.out.on HBR.out).eight
  have zl := (HV0.out.on HBR.out).lt
  by_cases hkl : q < keys.length
  ·obtain ⟨g3, o3, cs3, rfl, hi3, hc3⟩ := HK.out q _ (List.getElem?_eq_getElem hkl)
   have HNX := Lib.hid (Ow.failing_next (v := v) hkl)
   have HWK := Lib.hid (H4.out _ (List.getElem_mem hkl))
   have HTL := Lib.hid (show t.length ≤ 1000000 by
    rw [HTE.out]
    have := Ow.failing_len (keys.take q) v
    rw [List.length_take] at this
    omega)
   have hkqi : (q : Int) < (keys.length : Int) := by omega
   generalize (keys[q]'hkl) = K at *
   obtain ⟨nm, kv, kids⟩ := K
   obtain ⟨k, b, n, s, l, m⟩ := kv
   obtain ⟨r, A4, c4, rfl, hkv, _, _, _⟩ := hi3
   simp only at HNX HWK hkv hc3
   obtain ⟨A, e, B, d, he, _⟩ := In.form hkv
   unfold vlV at he
   injection he with he
   subst he
   have HKV := Lib.hid hkv
   have hle := le_below HBW.out
   have y0 : wz.cell? ⟨g3, o3 + q * 10 + 0, none⟩ = some (.string ⟨nm.toArray⟩) := hle _ _ (hc3 0 _ rfl)
   rw [Nat.add_zero] at y0
   have y1 : wz.cell? ⟨g3, o3 + q * 10 + 1, none⟩ = some (.int .i64 k) := hle _ _ (hc3 1 _ rfl)
   have y2 : wz.cell? ⟨g3, o3 + q * 10 + 2, none⟩ = some (.bool b) := hle _ _ (hc3 2 _ rfl)
   have y3 : wz.cell? ⟨g3, o3 + q * 10 + 3, none⟩ = some (.bool n.neg) := hle _ _ (hc3 3 _ rfl)
   have y4 : wz.cell? ⟨g3, o3 + q * 10 + 4, none⟩ = some (.string ⟨n.digits.toArray⟩) := hle _ _ (hc3 4 _ rfl)
   have y5 : wz.cell? ⟨g3, o3 + q * 10 + 5, none⟩ = some (.int .i64 n.exp) := hle _ _ (hc3 5 _ rfl)
   have y6 : wz.cell? ⟨g3, o3 + q * 10 + 6, none⟩ = some (.string ⟨s.toArray⟩) := hle _ _ (hc3 6 _ rfl)
   have y7 : wz.cell? ⟨g3, o3 + q * 10 + 7, none⟩ = some (.slice A l.length e) := hle _ _ (hc3 7 _ rfl)
   have y8 : wz.cell? ⟨g3, o3 + q * 10 + 8, none⟩ = some (.slice B m.length d) := hle _ _ (hc3 8 _ rfl)
   have y9 : wz.cell? ⟨g3, o3 + q * 10 + 9, none⟩ = some (.slice A4 kids.length c4) := hle _ _ (hc3 9 _ rfl)
   have yl := World.block_lt_of_cell? _ _ y0
   have HB1 := Lib.hid (HBR.out.alloc HBR.out.size (.cells #[.string ⟨nm.toArray⟩, .int .i64 k, .bool b, .bool n.neg, .string ⟨n.digits.toArray⟩, .int .i64 n.exp, .string ⟨s.toArray⟩, .slice A l.length e, .slice B m.length d, .slice A4 kids.length c4] 43))
   have HB1W := Lib.hid (HBW.out.alloc HBW.out.size (.cells #[.string ⟨nm.toArray⟩, .int .i64 k, .bool b, .bool n.neg, .string ⟨n.digits.toArray⟩, .int .i64 n.exp, .string ⟨s.toArray⟩, .slice A l.length e, .slice B m.length d, .slice A4 kids.length c4] 43))
   have HKX := Lib.hid (Blk.new wz 43 #[.string ⟨nm.toArray⟩, .int .i64 k, .bool b, .bool n.neg, .string ⟨n.digits.toArray⟩, .int .i64 n.exp, .string ⟨s.toArray⟩, .slice A l.length e, .slice B m.length d, .slice A4 kids.length c4])
   have HFA := Lib.hid (fails14_any nm k b n s l m A e B d A4 kids.length c4 v (.agg #[.int .i64 v_1, .bool v_2, .bool v_3, .string ⟨v_4.toArray⟩, .int .i64 v_5, .string ⟨v_6.toArray⟩, .slice v_7 v_8 v_9, .slice v_a v_b v_c]) (wz.alloc (.cells #[.string ⟨nm.toArray⟩, .int .i64 k, .bool b, .bool n.neg, .string ⟨n.digits.toArray⟩, .int .i64 n.exp, .string ⟨s.toArray⟩, .slice A l.length e, .slice B m.length d, .slice A4 kids.length c4] 43)) HWK.out.1 HWV.out (In.keep (le_below HB1W.out) _ _ HKV.out) (In.keep (le_below HB1W.out) _ _ HXV.out) (HT0.out.keep HB1W.out))
   obtain ⟨fb, hfb⟩ : ∃ q, Ow.fails nm (.mk k b n s l m) v = q := ⟨_, rfl⟩
   rw [hfb] at HFA HNX
   clear hkv hc3 hle hfb
   go_wp2_with fail
   refine HFA.out.mono ?_
   rintro e2 w2 ⟨rfl, hb2⟩
   have HB2 := Lib.hid (HB1.out.trans (hb2.mono HB1.out.size))
   have HS2 := Lib.hid ((HSR.out.on ((Below.refl wz.heap.size wz).alloc (Nat.le_refl _) (.cells #[.string ⟨nm.toArray⟩, .int .i64 k, .bool b, .bool n.neg, .string ⟨n.digits.toArray⟩, .int .i64 n.exp, .string ⟨s.toArray⟩, .slice A l.length e, .slice B m.length d, .slice A4 kids.length c4] 43))).on hb2)
   have HKX2 := Lib.hid (HKX.out.on hb2)
   clear hb2 y0 y1 y2 y3 y4 y5 y6 y7 y8 y9 yl z0 z1 z2 z3 z4 z5 z6 z7 zl
   cases fb with
   | false =>
    go_wp2_with fail
    go_roundw
    case rel => exact ⟨q + 1, A5, c5, t, rfl, by go_num, by omega, by rw [HNX.out, HTE.out]; simp, HB2.out, HS2.out⟩
    case measure => simp [intOf]; omega
   | true =>
    obtain ⟨y0, y1, y2, y3, y4, y5, y6, y7, y8, y9⟩ := HKX2.out.ten14
    have yl := HKX2.out.lt
    have hb7 := (Below.refl w2.heap.size w2).alloc (Nat.le_refl _) (.cells #[.string ⟨nm.toArray⟩] 9)
    have HB7 := Lib.hid (HB2.out.trans (hb7.mono HB2.out.size))
    have HS7 := Lib.hid (HS2.out.on hb7)
    have HNW := Lib.hid (Blk.new w2 9 #[.string ⟨nm.toArray⟩])
    have HSR1 := Lib.hid (show SrcX (w2.alloc (.cells #[.string ⟨nm.toArray⟩] 9)) (some ⟨w2.heap.size, 0, none⟩) 1 (strs14 [nm]) from ⟨(fun e => by cases e), fun ad e j u hu => by injection e with e; subst e; exact World.news_of_block HNW.out j u hu⟩)
    have HSZ := Lib.hid (show ws.heap.size ≤ (w2.alloc (.cells #[.string ⟨nm.toArray⟩] 9)).heap.size from HB7.out.size)
    have HLN := Lib.hid (show t.length + 1 ≤ maxLen ∧ (t.length + 1) * 16 ≤ 140737488355328 from by have := HTL.out; unfold maxLen; omega)
    obtain ⟨i0, hi0, hz0, hz1, hz2⟩ := infoStr14
    clear hb7
    go_wp2_with (at_builtin; refine wpList_append_srcx _ rfl _ _ _ rfl ws.heap.size 9 i0 _ 1 16 Tryz.underlying35 hi0 hz0 hz1 hz2 rfl (by decide) (.slice A5 t.length c5) t.length (strs14 t) rfl HS7.out (some ⟨w2.heap.size, 0, none⟩) 1 1 (strs14 [nm]) rfl rfl HSR1.out (strs14_one _) HLN.out.1 HLN.out.2 HSZ.out (t.length + 1) rfl ?_; intro A8 c8 x8 hown hgr; have HOWN := Lib.hid hown; have HGR := Lib.hid hgr; clear hown hgr)
    have HB8 := Lib.hid (show Below ws.heap.size ws x8 from HB7.out.grown HGR.out HB7.out.size (fun b hb => by
     cases A5 with
     | none => cases hb
     | some ad =>
      obtain ⟨g, rfl, hg, _⟩ := HSR.out.le.2.2 ad rfl
      have : b = g := by simpa [Value.ownBlock] using hb.symm
      omega))
    have HS8 := Lib.hid (show StrsAt x8 ws.heap.size A8 c8 (t ++ [nm]) by
     unfold StrsAt
     rw [show strs14 (t ++ [nm]) = strs14 t ++ strs14 [nm] by simp [strs14], List.length_append, List.length_singleton]
     exact HOWN.out)
    go_roundw
    case rel => exact ⟨q + 1, A8, c8, t ++ [nm], by rw [List.length_append]; rfl, by go_num, by omega, by rw [HNX.out, HTE.out]; rfl, HB8.out, HS8.out⟩
    case measure => simp [intOf]; omega
  ·obtain rfl : q = keys.length := by omega
   have HTT := Lib.hid (show Ow.own ⟨P, false, npass, keys⟩ v = t by rw [HCO.out, HTE.out, List.take_length])
   go_wp2_with fail
   go_ret
   exact ⟨A5, c5, by rw [HTT.out]; rfl, by rw [HTT.out]; exact HSR.out.less HB0.out.size, HBW.out⟩

theorem stays14 : Stays Tab := fun _ _ h hb => h.keep hb
theorem ownT_any : OwnT Tab := by
 intro P tx nall npass keys A2 c2 v xv w hg hk h1 h2 h3 h4 hv hxv hall
 refine (own14_any P tx nall npass keys A2 c2 v xv w hg hk h1 h2 h3 h4 hv hxv hall).mono ?_
 rintro e w' ⟨A, c, rfl, hs, hb⟩
 exact ⟨A, c, rfl, hs.strs, hs.le.1, hs.le.2.1, hb⟩

end Go.Proofs.YtolkfgikomminaaGreatDoor


