/- Ea: Ea Eb, in one text. -/
import Derived.Test.YtolkfgikomminaaGreatDoorDl
import Derived.Test.YtolkfgikomminaaGreatDoorDi
import Derived.ArgAppend
namespace Go.Proofs.YtolkfgikomminaaGreatDoor.Cm
open Js Pt

def kRef : List UInt8 := [36, 114, 101, 102]
def placeNames : List (List UInt8) := [kRef, [97, 108, 108, 79, 102], [97, 110, 121, 79, 102], [111, 110, 101, 79, 102], [110, 111, 116]]
def place (nm : List UInt8) : Bool := placeNames.contains nm
def keyNexts (K : Key) : List Nat := if place K.name = true then K.kids.map (·.2) else []
def nexts (N : Node) : List Nat := N.keys.flatMap keyNexts
def Step (l : List Node) (a b : Nat) : Prop := ∃ N, l[a]? = some N ∧ b ∈ nexts N
inductive Leads (l : List Node) : Nat → Nat → Prop where
 | one {a b : Nat} : Step l a b → Leads l a b
 | more {a b c : Nat} : Leads l a b → Step l b c → Leads l a c
theorem Leads.on {l : List Node} {a b c : Nat} (h : a = b ∨ Leads l a b) (k : Step l b c) : Leads l a c := by
 rcases h with rfl | h
 ·exact .one k
 ·exact .more h k
def Inside (l : List Node) : Prop := ∀ N ∈ l, ∀ K ∈ N.keys, ∀ p ∈ K.kids, p.2 < l.length
theorem Inside.next {l : List Node} (h : Inside l) {a b : Nat} (k : Step l a b) : b < l.length := by
 obtain ⟨N, hN, hb⟩ := k
 unfold nexts at hb
 obtain ⟨K, hK, hb⟩ := List.mem_flatMap.1 hb
 unfold keyNexts at hb
 split at hb
 ·obtain ⟨p, hp, rfl⟩ := List.mem_map.1 hb
  exact h N (List.mem_of_getElem? hN) K hK p hp
 ·cases hb
theorem inside_of {v : Vl} {a : List Node} (hv : v.may = true) (hs : v.size ≤ 1000000) (h : compile v = .ok a) : Inside a := fun N hN K hK p hp => by
 obtain ⟨_, _, _, _, _, hab⟩ := compile_stand hv hs h
 obtain ⟨i, hi⟩ := List.getElem?_of_mem hN
 have := (hab i N hi K hK p hp).2
 omega

structure Reaching (l : List Node) (i : Nat) (out : List Bool) (todo : List Nat) : Prop where
 len : out.length = l.length
 sound : ∀ n, out[n]? = some true → Leads l i n
 from_ : ∀ n ∈ todo, n < l.length ∧ (n = i ∨ out[n]? = some true)
 closed : ∀ n, (n = i ∨ out[n]? = some true) → n ∈ todo ∨ ∀ m, Step l n m → out[m]? = some true
structure Part12 (l : List Node) (i x : Nat) (done : List Nat) (out : List Bool) (todo : List Nat) : Prop where
 len : out.length = l.length
 sound : ∀ n, out[n]? = some true → Leads l i n
 from_ : ∀ n ∈ todo, n < l.length ∧ (n = i ∨ out[n]? = some true)
 closed : ∀ n, (n = i ∨ out[n]? = some true) → n ∈ todo ∨ n = x ∨ ∀ m, Step l n m → out[m]? = some true
 here : x = i ∨ out[x]? = some true
 met : ∀ m ∈ done, out[m]? = some true
section
variable {l : List Node} {i x : Nat} {done : List Nat} {out : List Bool} {todo : List Nat}
theorem Reaching.start (hi : i < l.length) : Reaching l i (List.replicate l.length false) [i] where
 len := by simp
 sound := fun n h => by
  obtain ⟨hn, e⟩ := List.getElem?_eq_some_iff.1 h
  rw [List.getElem_replicate] at e; cases e
 from_ := fun n hn => by rw [List.mem_singleton.1 hn]; exact ⟨hi, .inl rfl⟩
 closed := fun n hn => by
  rcases hn with rfl | h
  ·exact .inl (by simp)
  ·obtain ⟨hn, e⟩ := List.getElem?_eq_some_iff.1 h
   rw [List.getElem_replicate] at e; cases e
theorem Reaching.pop (h : Reaching l i out (x :: todo)) : Part12 l i x [] out todo where
 len := h.len
 sound := h.sound
 from_ := fun n hn => h.from_ n (by simp [hn])
 closed := fun n hn => by
  rcases h.closed n hn with k | k
  ·rcases List.mem_cons.1 k with k | k
   ·exact .inr (.inl k)
   ·exact .inl k
  ·exact .inr (.inr k)
 here := (h.from_ x (by simp)).2
 met := fun m hm => by cases hm
theorem Part12.old (h : Part12 l i x done out todo) {m : Nat} (hm : out[m]? = some true) : Part12 l i x (done ++ [m]) out todo :=
 ⟨h.len, h.sound, h.from_, h.closed, h.here, fun q hq => by
  rcases List.mem_append.1 hq with k | k
  ·exact h.met q k
  ·rw [List.mem_singleton.1 k]; exact hm⟩
theorem Part12.mark (h : Part12 l i x done out todo) {m : Nat} (hs : Step l x m) (hm : m < l.length) : Part12 l i x (done ++ [m]) (out.set m true) (todo ++ [m]) := by
 have hl : m < out.length := by rw [h.len]; exact hm
 have hset : ∀ n, out[n]? = some true → (out.set m true)[n]? = some true := fun n hn => by
  rw [List.getElem?_set]
  split
  ·rename_i e; subst e; simp
  ·exact hn
 have hget : ∀ n, (out.set m true)[n]? = some true → n = m ∨ out[n]? = some true := fun n hn => by
  rw [List.getElem?_set] at hn
  split at hn
  ·rename_i e; exact .inl e.symm
  ·exact .inr hn
 have hmm : (out.set m true)[m]? = some true := by rw [List.getElem?_set_self hl]
 refine ⟨by rw [List.length_set]; exact h.len, fun n hn => ?_, fun n hn => ?_, fun n hn => ?_, h.here.imp id (hset x), fun q hq => ?_⟩
 ·rcases hget n hn with rfl | k
  ·exact Leads.on (h.here.imp Eq.symm (h.sound x)) hs
  ·exact h.sound n k
 ·rcases List.mem_append.1 hn with k | k
  ·exact ⟨(h.from_ n k).1, (h.from_ n k).2.imp id (hset n)⟩
  ·rw [List.mem_singleton.1 k]; exact ⟨hm, .inr hmm⟩
 ·have hn' : n = m ∨ (n = i ∨ out[n]? = some true) := by
   rcases hn with k | k
   ·exact .inr (.inl k)
   ·exact (hget n k).imp id .inr
  rcases hn' with rfl | k
  ·exact .inl (by simp)
  ·rcases h.closed n k with q | q | q
   ·exact .inl (by simp [q])
   ·exact .inr (.inl q)
   ·exact .inr (.inr fun m' hs' => hset m' (q m' hs'))
 ·rcases List.mem_append.1 hq with k | k
  ·exact hset q (h.met q k)
  ·rw [List.mem_singleton.1 k]; exact hmm
theorem Part12.fin (h : Part12 l i x done out todo) (hd : ∀ m, Step l x m → m ∈ done) : Reaching l i out todo where
 len := h.len
 sound := h.sound
 from_ := h.from_
 closed := fun n hn => by
  rcases h.closed n hn with k | k | k
  ·exact .inl k
  ·subst k; exact .inr fun m hs => h.met m (hd m hs)
  ·exact .inr k
theorem Reaching.fin (h : Reaching l i out []) (n : Nat) : out[n]? = some true ↔ Leads l i n := by
 refine ⟨h.sound n, fun k => ?_⟩
 have hc : ∀ n, (n = i ∨ out[n]? = some true) → ∀ m, Step l n m → out[m]? = some true := fun n hn => (h.closed n hn).elim (fun q => by cases q) id
 induction k with
 | one s => exact hc _ (.inl rfl) _ s
 | more _ s ih => exact hc _ (.inr ih) _ s
theorem falses_set : ∀ (out : List Bool) (m : Nat), out[m]? = some false → (out.set m true).count false + 1 = out.count false
 | [], m, h => by simp at h
 | b :: r, 0, h => by
  have hb : b = false := by simpa using h
  subst hb
  simp
 | b :: r, m + 1, h => by
  have := falses_set r m (by simpa using h)
  cases b <;> simp <;> omega
end
theorem nexts_take {N : Node} {k : Nat} {K : Key} (h : N.keys[k]? = some K) : (N.keys.take (k + 1)).flatMap keyNexts = (N.keys.take k).flatMap keyNexts ++ keyNexts K := by
 obtain ⟨hk, rfl⟩ := List.getElem?_eq_some_iff.1 h
 rw [List.take_succ_eq_append_getElem hk, List.flatMap_append]
 simp
theorem step_mem {l : List Node} {x m : Nat} {N : Node} (hN : l[x]? = some N) : Step l x m ↔ m ∈ N.keys.flatMap keyNexts := by
 constructor
 ·rintro ⟨N', h, k⟩
  rw [hN] at h
  injection h with h
  subst h
  exact k
 ·intro h; exact ⟨N, hN, h⟩

def refAt (l : List Node) (s : List UInt8) : Nat → Option Nat
 | 0 => none
 | j + 1 => if (l[j]?).map (fun N => decide (s = 35 :: text N.at_)) = some true then some j else refAt l s j
def linkKey (l : List Node) (P : Names) (K : Key) : Res Key :=
 if K.name = kRef then (match refAt l (Sh.strOf K.v) l.length with
  | none => .bad 12 (P ++ [kRef])
  | some j => .ok { K with kids := [([], j)] })
 else .ok K
def linkKeys (l : List Node) (P : Names) : List Key → Res (List Key)
 | [] => .ok []
 | K :: r => match linkKey l P K with
  | .bad c p => .bad c p
  | .ok K' => match linkKeys l P r with
   | .bad c p => .bad c p
   | .ok r' => .ok (K' :: r')
def linkNodes (l : List Node) : List Node → Res (List Node)
 | [] => .ok []
 | N :: r => match linkKeys l N.at_ N.keys with
  | .bad c p => .bad c p
  | .ok ks => match linkNodes l r with
   | .bad c p => .bad c p
   | .ok r' => .ok ({ N with keys := ks } :: r')
theorem refAt_lt {l : List Node} {s : List UInt8} : ∀ {f j : Nat}, refAt l s f = some j → j < f ∧ ∃ N, l[j]? = some N ∧ s = 35 :: text N.at_
 | 0, j, h => by cases h
 | f + 1, j, h => by
  rw [refAt] at h
  split at h
  ·rename_i e
   injection h with h
   subst h
   cases hN : l[f]? with
   | none => rw [hN] at e; cases e
   | some N =>
    rw [hN] at e
    simp only [Option.map_some, Option.some.injEq, decide_eq_true_eq] at e
    exact ⟨by omega, N, rfl, e⟩
  ·obtain ⟨h1, h2⟩ := refAt_lt h
   exact ⟨by omega, h2⟩
theorem refAt_next {l : List Node} {s : List UInt8} {f : Nat} {N : Node} (hN : l[f]? = some N) : refAt l s (f + 1) = if s = 35 :: text N.at_ then some f else refAt l s f := by
 rw [refAt, hN]
 simp
theorem linkKeys_append (l : List Node) (P : Names) (b : List Key) : ∀ a : List Key, linkKeys l P (a ++ b) = match linkKeys l P a with
  | .bad c p => .bad c p
  | .ok a' => match linkKeys l P b with
   | .bad c p => .bad c p
   | .ok b' => .ok (a' ++ b')
 | [] => by
  rw [List.nil_append, linkKeys]
  cases linkKeys l P b <;> rfl
 | K :: r => by
  rw [List.cons_append, linkKeys, linkKeys]
  cases linkKey l P K with
  | bad c p => rfl
  | ok K' =>
   simp only
   rw [linkKeys_append l P b r]
   cases linkKeys l P r with
   | bad c p => rfl
   | ok r' =>
    simp only
    cases linkKeys l P b <;> rfl
theorem linkNodes_append (l : List Node) (b : List Node) : ∀ a : List Node, linkNodes l (a ++ b) = match linkNodes l a with
  | .bad c p => .bad c p
  | .ok a' => match linkNodes l b with
   | .bad c p => .bad c p
   | .ok b' => .ok (a' ++ b')
 | [] => by
  rw [List.nil_append, linkNodes]
  cases linkNodes l b <;> rfl
 | N :: r => by
  rw [List.cons_append, linkNodes, linkNodes]
  cases linkKeys l N.at_ N.keys with
  | bad c p => rfl
  | ok K' =>
   simp only
   rw [linkNodes_append l b r]
   cases linkNodes l r with
   | bad c p => rfl
   | ok r' =>
    simp only
    cases linkNodes l b <;> rfl
theorem linkKeys_next {l : List Node} {P : Names} {keys ks : List Key} {k : Nat} (hk : k < keys.length) (h : linkKeys l P (keys.take k) = .ok ks) :
  (∀ K', linkKey l P keys[k] = .ok K' → linkKeys l P (keys.take (k + 1)) = .ok (ks ++ [K'])) ∧ (∀ c p, linkKey l P keys[k] = .bad c p → linkKeys l P keys = .bad c p) := by
 constructor
 ·intro K' h2
  rw [List.take_succ_eq_append_getElem hk, linkKeys_append, h, linkKeys, h2]
  rfl
 ·intro c p h2
  have e : keys = keys.take k ++ keys[k] :: keys.drop (k + 1) := by rw [← List.drop_eq_getElem_cons hk, List.take_append_drop]
  rw [e, linkKeys_append, h, linkKeys, h2]
theorem linkNodes_next {l ns os : List Node} {k : Nat} (hk : k < ns.length) (h : linkNodes l (ns.take k) = .ok os) :
  (∀ ks, linkKeys l ns[k].at_ ns[k].keys = .ok ks → linkNodes l (ns.take (k + 1)) = .ok (os ++ [{ ns[k] with keys := ks }])) ∧ (∀ c p, linkKeys l ns[k].at_ ns[k].keys = .bad c p → linkNodes l ns = .bad c p) := by
 constructor
 ·intro ks h2
  rw [List.take_succ_eq_append_getElem hk, linkNodes_append, h, linkNodes, h2]
  rfl
 ·intro c p h2
  have e : ns = ns.take k ++ ns[k] :: ns.drop (k + 1) := by rw [← List.drop_eq_getElem_cons hk, List.take_append_drop]
  rw [e, linkNodes_append, h, linkNodes, h2]
def Linked (n : Nat) (K K' : Key) : Prop := K'.name = K.name ∧ K'.v = K.v ∧ ((K.name = kRef ∧ ∃ j, j < n ∧ K'.kids = [([], j)]) ∨ (¬ K.name = kRef ∧ K'.kids = K.kids))
theorem linkKey_ok {l : List Node} {P : Names} {K K' : Key} (h : linkKey l P K = .ok K') : Linked l.length K K' := by
 unfold linkKey at h
 split at h
 ·rename_i hr
  split at h
  ·cases h
  ·rename_i j hj
   injection h with h
   subst h
   exact ⟨rfl, rfl, .inl ⟨hr, j, (refAt_lt hj).1, rfl⟩⟩
 ·rename_i hr
  injection h with h
  subst h
  exact ⟨rfl, rfl, .inr ⟨hr, rfl⟩⟩
theorem linkKeys_ok {l : List Node} {P : Names} : ∀ {keys ks : List Key}, linkKeys l P keys = .ok ks → ks.length = keys.length ∧ ∀ (k : Nat) K, keys[k]? = some K → ∃ K', ks[k]? = some K' ∧ Linked l.length K K'
 | [], ks, h => by
  rw [linkKeys] at h; injection h with h; subst h
  exact ⟨rfl, fun k K hk => by simp at hk⟩
 | K :: r, ks, h => by
  rw [linkKeys] at h
  cases h1 : linkKey l P K with
  | bad c p => rw [h1] at h; cases h
  | ok K' =>
   rw [h1] at h
   simp only at h
   cases h2 : linkKeys l P r with
   | bad c p => rw [h2] at h; cases h
   | ok r' =>
    rw [h2] at h
    simp only [Res.ok.injEq] at h
    subst h
    obtain ⟨q1, q2⟩ := linkKeys_ok h2
    refine ⟨by simp [q1], fun k X hX => ?_⟩
    cases k with
    | zero =>
     have : K = X := by simpa using hX
     subst this
     exact ⟨K', rfl, linkKey_ok h1⟩
    | succ k => exact q2 k X (by simpa using hX)
theorem linkNodes_ok {l : List Node} : ∀ {ns os : List Node}, linkNodes l ns = .ok os → os.length = ns.length ∧ ∀ (k : Nat) N, ns[k]? = some N → ∃ ks, os[k]? = some { N with keys := ks } ∧ linkKeys l N.at_ N.keys = .ok ks
 | [], os, h => by
  rw [linkNodes] at h; injection h with h; subst h
  exact ⟨rfl, fun k K hk => by simp at hk⟩
 | N :: r, os, h => by
  rw [linkNodes] at h
  cases h1 : linkKeys l N.at_ N.keys with
  | bad c p => rw [h1] at h; cases h
  | ok ks =>
   rw [h1] at h
   simp only at h
   cases h2 : linkNodes l r with
   | bad c p => rw [h2] at h; cases h
   | ok r' =>
    rw [h2] at h
    simp only [Res.ok.injEq] at h
    subst h
    obtain ⟨q1, q2⟩ := linkNodes_ok h2
    refine ⟨by simp [q1], fun k X hX => ?_⟩
    cases k with
    | zero =>
     have : N = X := by simpa using hX
     subst this
     exact ⟨ks, rfl, h1⟩
    | succ k => exact q2 k X (by simpa using hX)
theorem linked_inside {l os : List Node} (hi : Inside l) (h : linkNodes l l = .ok os) : Inside os ∧ os.length = l.length := by
 obtain ⟨h1, h2⟩ := linkNodes_ok h
 refine ⟨fun N' hN' K' hK' p hp => ?_, h1⟩
 obtain ⟨k, hk⟩ := List.getElem?_of_mem hN'
 have hkl : k < l.length := by have := (List.getElem?_eq_some_iff.1 hk).1; omega
 obtain ⟨ks, e1, e2⟩ := h2 k _ (List.getElem?_eq_getElem hkl)
 rw [hk] at e1
 injection e1 with e1
 subst e1
 obtain ⟨q1, q2⟩ := linkKeys_ok e2
 obtain ⟨j, hj⟩ := List.getElem?_of_mem hK'
 have hj0 : ks[j]? = some K' := hj
 have hjl : j < l[k].keys.length := by have := (List.getElem?_eq_some_iff.1 hj0).1; omega
 obtain ⟨K2, e3, _, _, hkd⟩ := q2 j _ (List.getElem?_eq_getElem hjl)
 rw [hj0] at e3
 injection e3 with e3
 subst e3
 rw [h1]
 rcases hkd with ⟨_, j', hj', e⟩ | ⟨_, e⟩
 ·rw [e] at hp
  rw [List.mem_singleton.1 hp]; exact hj'
 ·rw [e] at hp
  exact hi _ (List.getElem_mem hkl) _ (List.getElem_mem hjl) p hp

open Classical in
noncomputable def ringFrom (out : List Node) : Nat → Nat → Option Nat
 | _, 0 => none
 | i, f + 1 => if Leads out i i then some i else ringFrom out (i + 1) f
theorem ring_some {out : List Node} : ∀ {f i j : Nat}, ringFrom out i f = some j → i ≤ j ∧ j < i + f ∧ Leads out j j ∧ ∀ q, i ≤ q → q < j → ¬ Leads out q q
 | 0, i, j, h => by cases h
 | f + 1, i, j, h => by
  rw [ringFrom] at h
  split at h
  ·rename_i hl
   injection h with h
   subst h
   exact ⟨Nat.le_refl _, by omega, hl, fun q h1 h2 => absurd h2 (by omega)⟩
  ·rename_i hl
   obtain ⟨h1, h2, h3, h4⟩ := ring_some h
   refine ⟨by omega, by omega, h3, fun q q1 q2 => ?_⟩
   by_cases e : q = i
   ·subst e; exact hl
   ·exact h4 q (by omega) q2
theorem ring_none {out : List Node} : ∀ {f i : Nat}, ringFrom out i f = none → ∀ q, i ≤ q → q < i + f → ¬ Leads out q q
 | 0, i, _, q, h1, h2 => absurd h2 (by omega)
 | f + 1, i, h, q, h1, h2 => by
  rw [ringFrom] at h
  split at h
  ·cases h
  ·rename_i hl
   by_cases e : q = i
   ·subst e; exact hl
   ·exact ring_none h q (by omega) (by omega)
theorem ring_is {out : List Node} {j : Nat} (hj : j < out.length) (h : Leads out j j) (hf : ∀ q, q < j → ¬ Leads out q q) : ringFrom out 0 out.length = some j := by
 cases e : ringFrom out 0 out.length with
 | none => exact absurd h (ring_none e j (Nat.zero_le _) (by omega))
 | some i =>
  obtain ⟨_, h2, h3, h4⟩ := ring_some e
  rcases Nat.lt_trichotomy i j with k | k | k
  ·exact absurd h3 (hf i k)
  ·rw [k]
  ·exact absurd h (h4 j (Nat.zero_le _) k)
theorem ring_not {out : List Node} (hf : ∀ q, q < out.length → ¬ Leads out q q) : ringFrom out 0 out.length = none := by
 cases e : ringFrom out 0 out.length with
 | none => rfl
 | some i =>
  obtain ⟨_, h2, h3, _⟩ := ring_some e
  exact absurd h3 (hf i (by omega))
noncomputable def link (l : List Node) : Res (List Node) :=
 match linkNodes l l with
 | .bad c p => .bad c p
 | .ok out => match ringFrom out 0 out.length with
  | some i => .bad 13 ((out[i]?).map (·.at_)).get!
  | none => .ok out

end Go.Proofs.YtolkfgikomminaaGreatDoor.Cm

namespace Go.Proofs.YtolkfgikomminaaGreatDoor
open Go.RowKit Js Pt

theorem refPlace_any (nm : List UInt8) (w : World) : Calls Tryz.prog 69 #[.string ⟨nm.toArray⟩] w fun e w' => e = .returned (.bool (Cm.place nm)) ∧ w' = w := by
 by_cases h1 : nm = [36, 114, 101, 102]
 ·subst h1
  go_enter Tryz.func69, Tryz.ntmps69
  go_wp2_with fail
  go_ret
  exact ⟨by kernel_rfl, rfl⟩
 by_cases h2 : nm = [97, 108, 108, 79, 102]
 ·subst h2
  go_enter Tryz.func69, Tryz.ntmps69
  go_wp2_with fail
  go_ret
  exact ⟨by kernel_rfl, rfl⟩
 by_cases h3 : nm = [97, 110, 121, 79, 102]
 ·subst h3
  go_enter Tryz.func69, Tryz.ntmps69
  go_wp2_with fail
  go_ret
  exact ⟨by kernel_rfl, rfl⟩
 by_cases h4 : nm = [111, 110, 101, 79, 102]
 ·subst h4
  go_enter Tryz.func69, Tryz.ntmps69
  go_wp2_with fail
  go_ret
  exact ⟨by kernel_rfl, rfl⟩
 by_cases h5 : nm = [110, 111, 116]
 ·subst h5
  go_enter Tryz.func69, Tryz.ntmps69
  go_wp2_with fail
  go_ret
  exact ⟨by kernel_rfl, rfl⟩
 have HN := Lib.hid (show Cm.place nm = false by
  unfold Cm.place Cm.placeNames Cm.kRef
  simp [h1, h2, h3, h4, h5])
 have e1 : (nm == [36, 114, 101, 102]) = false := by simpa using h1
 have e2 : (nm == [97, 108, 108, 79, 102]) = false := by simpa using h2
 have e3 : (nm == [97, 110, 121, 79, 102]) = false := by simpa using h3
 have e4 : (nm == [111, 110, 101, 79, 102]) = false := by simpa using h4
 have e5 : (nm == [110, 111, 116]) = false := by simpa using h5
 clear h1 h2 h3 h4 h5
 go_enter Tryz.func69, Tryz.ntmps69
 go_wp2_with fail
 go_ret
 exact ⟨by rw [HN.out]; rfl, rfl⟩

theorem info_of12 {P : Program} {t : TypeId} {z : Value} {s b : Nat} (h : (P.info? t).map (fun i => (i.zero, i.size, i.bytes)) = some (some z, s, b)) : ∃ i, P.info? t = some i ∧ i.zero = some z ∧ i.size = s ∧ i.bytes = b := by
 cases hq : P.info? t with
 | none => rw [hq] at h; cases h
 | some i =>
  rw [hq] at h
  simp only [Option.map_some, Option.some.injEq, Prod.mk.injEq] at h
  exact ⟨i, rfl, h.1, h.2.1, h.2.2⟩
theorem infoInt12 : ∃ i, Tryz.prog.info? 3 = some i ∧ i.zero = some (.int .i64 0) ∧ i.size = 1 ∧ i.bytes = 8 := info_of12 (by kernel_rfl)
theorem infoBool12 : ∃ i, Tryz.prog.info? 4 = some i ∧ i.zero = some (.bool false) ∧ i.size = 1 ∧ i.bytes = 1 := info_of12 (by kernel_rfl)
def marks (out : List Bool) : Array Value := (out.map Value.bool).toArray
theorem madeBools (L : Nat) : madeCells #[.bool false] (L * 1) = marks (List.replicate L false) := by
 rw [Nat.mul_one]
 refine Array.ext (by rw [size_madeCells]; simp [marks]) (fun i h1 h2 => ?_)
 simp [madeCells, marks, Nat.mod_one]
def OutAt (W : World) (go : Nat) (out : List Bool) : Prop := Blk W go 4 (marks out)
theorem OutAt.cell {W : World} {go : Nat} {out : List Bool} (h : OutAt W go out) {n : Nat} {b : Bool} (hn : out[n]? = some b) : W.cell? ⟨go, n, none⟩ = some (.bool b) := by
 have h2 : Blk W go 4 (marks out) := h
 rw [h2.cell]
 unfold marks
 rw [List.getElem?_toArray, List.getElem?_map, hn]; rfl
theorem OutAt.mark {W : World} {go : Nat} {out : List Bool} (h : OutAt W go out) (n : Nat) : OutAt (W.setCell ⟨go, n, none⟩ (.bool true)) go (out.set n true) := by
 have := Blk.setL (l := out.map Value.bool) h n (.bool true)
 rw [← List.map_set] at this
 exact this
def nums12 (todo : List Nat) : List Value := todo.map fun q : Nat => Value.int .i64 (q : Int)
structure TodoAt (W : World) (B g off cap : Nat) (cs : List Value) (todo : List Nat) : Prop where
 blk : Blk W g 3 cs.toArray
 at_ : B ≤ g
 room : off + cap ≤ cs.length
 few : todo.length ≤ cap
 cells : ∀ (j : Nat) n, todo[j]? = some n → cs[off + j]? = some (.int .i64 (n : Int))
section
variable {W W' : World} {B g off cap : Nat} {cs : List Value} {todo : List Nat}
theorem TodoAt.on (h : TodoAt W B g off cap cs todo) (hb : Below W.heap.size W W') : TodoAt W' B g off cap cs todo := ⟨h.blk.on hb, h.at_, h.room, h.few, h.cells⟩
theorem TodoAt.far (h : TodoAt W B g off cap cs todo) (hb : W'.heap[g]? = W.heap[g]?) : TodoAt W' B g off cap cs todo := ⟨hb.trans h.blk, h.at_, h.room, h.few, h.cells⟩
theorem TodoAt.cell (h : TodoAt W B g off cap cs todo) {j n : Nat} (hj : todo[j]? = some n) : W.cell? ⟨g, off + j, none⟩ = some (.int .i64 (n : Int)) := by
 rw [h.blk.cell, List.getElem?_toArray]; exact h.cells j n hj
theorem TodoAt.pop {x : Nat} (h : TodoAt W B g off cap cs (x :: todo)) : TodoAt W B g (off + 1) (cap - 1) cs todo := by
 have hf := h.few
 have hr := h.room
 rw [List.length_cons] at hf
 refine ⟨h.blk, h.at_, by omega, by omega, fun j n hj => ?_⟩
 rw [show off + 1 + j = off + (j + 1) by omega]
 exact h.cells (j + 1) n (by simpa using hj)
end
theorem TodoAt.push {W : World} {B g off cap : Nat} {cs : List Value} {todo : List Nat} (h : TodoAt W B g off cap cs todo) (n : Nat) (hr : todo.length + 1 ≤ cap) :
  TodoAt (W.setCells g (off + todo.length) [.int .i64 (n : Int)]) B g off cap (cs.set (off + todo.length) (.int .i64 (n : Int))) (todo ++ [n]) := by
 have hro := h.room
 refine ⟨?_, h.at_, by rw [List.length_set]; exact hro, by rw [List.length_append]; exact hr, fun j m hj => ?_⟩
 ·exact Blk.setL h.blk (off + todo.length) _
 ·by_cases hjl : j < todo.length
  ·rw [List.getElem?_append_left hjl] at hj
   rw [List.getElem?_set_ne (by omega)]
   exact h.cells j m hj
  ·have hj1 := (List.getElem?_eq_some_iff.1 hj).1
   rw [List.length_append, List.length_singleton] at hj1
   obtain rfl : j = todo.length := by omega
   rw [List.getElem?_append_right (Nat.le_refl _)] at hj
   obtain rfl : n = m := by simpa using hj
   rw [List.getElem?_set_self (by omega)]
theorem TodoAt.grown {W : World} {B base : Nat} {todo : List Nat} {n : Nat} {v : Value} (hB : B ≤ base) (h : W.ownsRow base 3 1 v (todo.length + 1) ((nums12 todo) ++ [.int .i64 (n : Int)])) :
  ∃ (g cap : Nat) (cs : List Value), v = .slice (some ⟨g, 0, none⟩) (todo.length + 1) cap ∧ base ≤ g ∧ TodoAt W B g 0 cap cs (todo ++ [n]) := by
 obtain ⟨hl, ⟨_, h0⟩ | ⟨g, cap, cur, hv, hb, hc, q1, q2, q3, q4⟩⟩ := h
 ·omega
 ·refine ⟨g, cap, cur.toList, hv, hb, ⟨by rw [Array.toArray_toList]; exact hc, by omega, by rw [Array.length_toList]; omega, by rw [List.length_append]; exact q1, fun j m hj => ?_⟩⟩
  have hx : ((nums12 todo) ++ [.int .i64 (n : Int)])[j]? = some (.int .i64 (m : Int)) := by
   have : (nums12 todo) ++ [.int .i64 (n : Int)] = nums12 (todo ++ [n]) := by simp [nums12]
   rw [this, nums12, List.getElem?_map, hj]; rfl
  rw [← q4, List.getElem?_take] at hx
  split at hx
  ·rw [Nat.zero_add]; exact hx
  ·cases hx
def isFalse : Value → Bool
 | .bool false => true
 | _ => false
def falsesAt (W : World) (g : Nat) : Nat := match W.heap[g]? with
 | some (.cells cs _ _) => cs.toList.countP isFalse
 | _ => 0
def lenOf : Value → Nat
 | .slice _ n _ => n
 | _ => 0
theorem OutAt.falses {W : World} {go : Nat} {out : List Bool} (h : OutAt W go out) : falsesAt W go = out.count false := by
 have h2 : W.heap[go]? = some (.cells (marks out) 4 (0, 0)) := h
 unfold falsesAt
 rw [h2]
 show (marks out).toList.countP isFalse = _
 unfold marks
 rw [List.toList_toArray, List.countP_map, List.count]
 congr 1
 funext b
 cases b <;> rfl
structure Rch (w : World) (go L g off cap : Nat) (cs : List Value) (todo : List Nat) (out : List Bool) (W : World) : Prop where
 below : Below w.heap.size w W
 out_ : OutAt W go out
 todo_ : TodoAt W (go + 1) g off cap cs todo
 new : w.heap.size ≤ go
 fuel : todo.length + out.count false ≤ L + 1
theorem Rch.on {w : World} {go L g off cap : Nat} {cs : List Value} {todo : List Nat} {out : List Bool} {W W' : World} (h : Rch w go L g off cap cs todo out W) (hb : Below W.heap.size W W') : Rch w go L g off cap cs todo out W' :=
 ⟨h.below.trans (hb.mono h.below.size), Blk.on h.out_ hb, h.todo_.on hb, h.new, h.fuel⟩
theorem Rch.pop {w : World} {go L g off cap x : Nat} {cs : List Value} {todo : List Nat} {out : List Bool} {W : World} (h : Rch w go L g off cap cs (x :: todo) out W) : Rch w go L g (off + 1) (cap - 1) cs todo out W :=
 ⟨h.below, h.out_, h.todo_.pop, h.new, by have := h.fuel; rw [List.length_cons] at this; omega⟩

set_option linter.unusedVariables false in
set_option linter.unusedSimpArgs false in
set_option maxRecDepth 100000 in
set_option maxHeartbeats 4000000 in
theorem refReach_any (l : List Cm.Node) (A : Option Addr) (cA i : Nat) (w : World) (hs : SlN w.cell? A l) (h1 : l.length ≤ cA) (h2 : cA ≤ maxLen) (hl : l.length ≤ 1000000) (hin : Cm.Inside l) (hi : i < l.length) :
  Calls Tryz.prog 39 #[.slice A l.length cA, .int .i64 i] w fun e w' => ∃ (g : Nat) (out : List Bool), e = .returned (.slice (some ⟨g, 0, none⟩) l.length l.length) ∧ OutAt w' g out ∧ out.length = l.length ∧ (∀ n, out[n]? = some true ↔ Cm.Leads l i n) ∧ Below w.heap.size w w' := by
 have HS := Lib.hid hs
 have HIN := Lib.hid hin
 have HR0 := Lib.hid (Cm.Reaching.start hi)
 unfold maxLen at h2
 obtain ⟨i0, hi0, hz0, hz1, hz2⟩ := infoBool12
 have hmk : ∀ W : World, (Instr.makeSlice 79 (.int .i64 (l.length : Int)) (.int .i64 (l.length : Int))).run Tryz.prog W = .ok (.slice (some ⟨W.heap.size, 0, none⟩) l.length l.length) (W.alloc (.cells (marks (List.replicate l.length false)) 4)) := fun W => by
  have := run_make (P := Tryz.prog) W 79 4 i0 (.bool false) Tryz.underlying79 hi0 hz0 .i64 .i64 l.length l.length (by omega) (Int.le_refl _) (by rw [hz2]; omega) (by omega)
  rw [hz1] at this
  simp only [Int.toNat_natCast] at this
  rw [show (Value.bool false).cells = #[.bool false] from rfl, madeBools] at this
  exact this
 have HB0 := Lib.hid ((Below.refl w.heap.size w).alloc (Nat.le_refl _) (.cells (marks (List.replicate l.length false)) 4))
 have HO0 := Lib.hid (show OutAt (w.alloc (.cells (marks (List.replicate l.length false)) 4)) w.heap.size (List.replicate l.length false) from Blk.new w _ _)
 clear hs hin hi
 go_enter Tryz.func39, Tryz.ntmps39
 go_upto_region 2 with (fail)
 generalize w.alloc (.cells (marks (List.replicate l.length false)) 4) = w1 at *
 obtain ⟨go, hgo⟩ : ∃ go, w.heap.size = go := ⟨_, rfl⟩
 have HO1 := Lib.hid (show OutAt w1 go (List.replicate l.length false) by rw [← hgo]; exact HO0.out)
 have hol : go < w1.heap.size := Blk.lt HO1.out
 have HRC := Lib.hid (show Rch w go l.length w1.heap.size 0 1 [.int .i64 (i : Int)] [i] (List.replicate l.length false) (w1.alloc (.cells #[.int .i64 (i : Int)] 3)) from
  ⟨HB0.out.alloc HB0.out.size _, Blk.alloc HO1.out _, ⟨Blk.new w1 _ _, hol, by simp, by simp, fun j n hj => by
   have hj0 := (List.getElem?_eq_some_iff.1 hj).1
   obtain rfl : j = 0 := by simpa using hj0
   obtain rfl : i = n := by simpa using hj
   rfl⟩, by omega, by simp; omega⟩)
 rw [hgo]
 clear HO0 HO1 HB0 hmk hi0 hz0 hz1 hz2 hol
 go_wp2_with fail
 generalize w1.alloc (.cells #[.int .i64 (i : Int)] 3) = w2 at *
 generalize w1.heap.size = g2 at *
 go_loopw [6] (fun t wr => ∃ (g off cap : Nat) (cs : List Value) (todo : List Nat) (out : List Bool), t = .slice (some ⟨g, off, none⟩) todo.length cap ∧ Cm.Reaching l i out todo ∧ Rch w go l.length g off cap cs todo out wr) (fun t wr => lenOf t + falsesAt wr go)
 case atStart => exact ⟨g2, 0, 1, _, [i], _, rfl, HR0.out, HRC.out⟩
 case round =>
  obtain ⟨g, off, cap, cs, todo, out, rfl, hre, hrc⟩ := hrel
  have HRE := Lib.hid hre
  have HRC := Lib.hid hrc
  clear hre hrc HR0
  cases todo with
  | nil =>
   go_wp2_with fail
   go_ret
   exact ⟨go, out, rfl, HRC.out.out_, HRE.out.len, HRE.out.fin, HRC.out.below⟩
  | cons x r =>
   have hxl := (HRE.out.from_ x (by simp)).1
   have hxc := HRC.out.todo_.cell (j := 0) (n := x) rfl
   have hgl := World.block_lt_of_cell? _ _ hxc
   have hfw := HRC.out.todo_.few
   obtain ⟨gA, oA, csN, rfl, hit, hcN⟩ := HS.out x _ (List.getElem?_eq_getElem hxl)
   obtain ⟨A2, c2, rfl, hk2, hl2, hm2⟩ := hit
   have e0 := (le_below HRC.out.below) _ _ (hcN 0 _ rfl)
   have e1 := (le_below HRC.out.below) _ _ (hcN 1 _ rfl)
   have e2 := (le_below HRC.out.below) _ _ (hcN 2 _ rfl)
   have e3 := (le_below HRC.out.below) _ _ (hcN 3 _ rfl)
   have hgl2 := World.block_lt_of_cell? _ _ e0
   have HKY := Lib.hid hk2
   have HNX := Lib.hid (show l[x]? = some l[x] from List.getElem?_eq_getElem hxl)
   have hxi : (x : Int) < (l.length : Int) := by omega
   rw [List.length_cons] at hfw
   have hfi : (1 : Int) ≤ (r.length : Int) + 1 := by omega
   simp only [Nat.add_zero] at hxc e0
   clear hk2 hcN
   generalize l[x]'hxl = N at *
   obtain ⟨P, nall, npass, keys⟩ := N
   simp only at hl2 e0 e1 e2 e3 HKY
   unfold maxLen at hm2
   generalize text P = tx at *
   have hb1 := (Below.refl wr.heap.size wr).alloc (Nat.le_refl _) (.cells #[.string ⟨tx.toArray⟩, .bool nall, .bool npass, .slice A2 keys.length c2] 39)
   have HB1 := Lib.hid (Blk.new wr 39 #[.string ⟨tx.toArray⟩, .bool nall, .bool npass, .slice A2 keys.length c2])
   have HRC1 := Lib.hid ((HRC.out.on hb1).pop)
   clear hb1
   go_upto_region 5 with (fail)
   generalize wr.alloc (.cells #[.string ⟨tx.toArray⟩, .bool nall, .bool npass, .slice A2 keys.length c2] 39) = wb at *
   obtain ⟨gb, hgb⟩ : ∃ gb, wr.heap.size = gb := ⟨_, rfl⟩
   have HBX := Lib.hid (show Blk wb gb 39 #[.string ⟨tx.toArray⟩, .bool nall, .bool npass, .slice A2 keys.length c2] by rw [← hgb]; exact HB1.out)
   have HGG := Lib.hid (show ¬ g = gb by have := HRC.out.todo_.blk.lt; omega)
   have HGO := Lib.hid (show ¬ go = gb by have := Blk.lt HRC.out.out_; omega)
   rw [hgb]
   clear e0 e1 e2 e3 hgl hgl2 hxc HB1 hgb
   have HPA := Lib.hid (HRE.out.pop)
   have HFO := Lib.hid (OutAt.falses HRC.out.out_)
   obtain ⟨wo, hwo⟩ : ∃ W, W = wr := ⟨_, rfl⟩
   subst hwo
   have HZ := Lib.hid (fun (h : cap = 1) => show Rch w go l.length g off 0 cs r out wb from by
    have hr0 : r = [] := List.eq_nil_of_length_eq_zero (by omega)
    have k := HRC1.out
    have kr := HRC.out.todo_.room
    subst hr0
    exact ⟨k.below, k.out_, ⟨k.todo_.blk, k.todo_.at_, by omega, Nat.le_refl _, fun j n hj => by simp at hj⟩, k.new, k.fuel⟩)
   go_cut [6] from 17 to 27 (fun v6 wc => wc = wb ∧ ∃ (off' cap' : Nat), v6 = .slice (some ⟨g, off', none⟩) r.length cap' ∧ Rch w go l.length g off' cap' cs r out wb)
   case first =>
    go_wp2_with fail
    ·have hc1 : cap = 1 := by assumption
     have hr0 : r.length = 0 := by omega
     go_meet
     case rel => exact ⟨rfl, off, 0, rfl, HZ.out hc1⟩
    ·go_meet
     case rel => exact ⟨rfl, off + 1, cap - 1, rfl, HRC1.out⟩
   case rest =>
   obtain ⟨rfl, off', cap', rfl, hrc1⟩ := hcut
   have HRC3 := Lib.hid hrc1
   clear hrc1 HZ HRC1 hfw hfi
   obtain ⟨wb2, hwb2⟩ : ∃ W, W = wc := ⟨_, rfl⟩
   subst hwb2
   go_wp2_with fail
   go_loopw [6, 8] (fun t k wr => ∃ (g off cap kq : Nat) (cs : List Value) (todo : List Nat) (out2 : List Bool), t = .slice (some ⟨g, off, none⟩) todo.length cap ∧ k = .int .i64 kq ∧ kq ≤ keys.length ∧ Cm.Part12 l i x ((keys.take kq).flatMap Cm.keyNexts) out2 todo ∧ Rch w go l.length g off cap cs todo out2 wr ∧ Blk wr gb 39 #[.string ⟨tx.toArray⟩, .bool nall, .bool npass, .slice A2 keys.length c2] ∧ ¬ g = gb ∧ todo.length + out2.count false ≤ r.length + out.count false) (fun _ k _ => keys.length - (intOf k).toNat)
   case atStart => exact ⟨g, off', cap', 0, cs, r, out, rfl, rfl, Nat.zero_le _, HPA.out, HRC3.out, HBX.out, HGG.out, Nat.le_refl _⟩
   case round =>
    obtain ⟨g, off, cap, kq, cs, todo, out2, rfl, rfl, hkq, hpa, hrc, hbx, hgg, hfu⟩ := hrel
    have HPA2 := Lib.hid hpa
    have HRC2 := Lib.hid hrc
    have HBX2 := Lib.hid hbx
    have HGG2 := Lib.hid hgg
    have HFU2 := Lib.hid hfu
    have b3 := hbx.cell 3
    have hbl := hbx.lt
    clear hpa hrc hbx hgg hfu
    by_cases hkl : kq < keys.length
    ·obtain ⟨g3, o3, cs3, rfl, hi3, hc3⟩ := HKY.out kq _ (List.getElem?_eq_getElem hkl)
     obtain ⟨j_1, j_2, j_3, j_4, j_5, j_6, j_7, j_8, j_9, j_a, j_b, j_c, A4, c4, rfl, _, hk4, hl4, hm4⟩ := hi3.cells
     have d0 := (le_below HRC2.out.below) _ _ (hc3 0 _ rfl)
     have HE9 := Lib.hid (hc3 9 _ rfl)
     have HL4 := Lib.hid hk4
     have HKI := Lib.hid (show keys[kq]? = some keys[kq] from List.getElem?_eq_getElem hkl)
     have hkqi : (kq : Int) < (keys.length : Int) := by omega
     have hgl3 := World.block_lt_of_cell? _ _ d0
     simp only [Nat.add_zero] at d0
     clear hi3 hc3 hk4
     generalize keys[kq]'hkl = K at *
     obtain ⟨nm, kv, kids⟩ := K
     simp only at hl4 d0 HE9 HL4 HKI
     unfold maxLen at hm4
     have HPL := Lib.hid (refPlace_any nm)
     obtain ⟨pb, hpb⟩ : ∃ pb, Cm.place nm = pb := ⟨_, rfl⟩
     rw [hpb] at HPL
     have HKN := Lib.hid (show Cm.keyNexts ⟨nm, kv, kids⟩ = if pb = true then kids.map (·.2) else [] by unfold Cm.keyNexts; rw [show Cm.place (Cm.Key.mk nm kv kids).name = pb from hpb])
     have HNT := Lib.hid (Cm.nexts_take (N := ⟨P, nall, npass, keys⟩) HKI.out)
     have HMK := Lib.hid (List.mem_of_getElem? HKI.out)
     clear hpb
     go_wp2_with fail
     refine (HPL.out _).mono ?_
     rintro e5 w5 ⟨rfl, hw5⟩
     rw [hw5]
     clear hw5 w5 HPL
     go_wp2_with fail
     obtain ⟨wo2, hwo2⟩ : ∃ W, W = wr := ⟨_, rfl⟩
     subst hwo2
     go_loopw [6, 10] (fun t j4 wr => ∃ (g off cap jq : Nat) (cs : List Value) (todo : List Nat) (out3 : List Bool), t = .slice (some ⟨g, off, none⟩) todo.length cap ∧ j4 = .int .i64 jq ∧ jq ≤ kids.length ∧ Cm.Part12 l i x ((keys.take kq).flatMap Cm.keyNexts ++ (if pb = true then (kids.take jq).map (·.2) else [])) out3 todo ∧ Rch w go l.length g off cap cs todo out3 wr ∧ Blk wr gb 39 #[.string ⟨tx.toArray⟩, .bool nall, .bool npass, .slice (some ⟨g3, o3, none⟩) keys.length c2] ∧ ¬ g = gb ∧ todo.length + out3.count false ≤ r.length + out.count false) (fun _ j4 _ => kids.length - (intOf j4).toNat)
     case atStart => exact ⟨g, off, cap, 0, cs, todo, out2, rfl, rfl, Nat.zero_le _, by rw [show (if pb = true then (kids.take 0).map (·.2) else []) = ([] : List Nat) by split <;> simp, List.append_nil]; exact HPA2.out, HRC2.out, HBX2.out, HGG2.out, HFU2.out⟩
     case round =>
      obtain ⟨g, off, cap, jq, cs, todo, out3, rfl, rfl, hjq, hpa, hrc, hbx, hgg, hfu⟩ := hrel
      have HPA3 := Lib.hid hpa
      have HRC4 := Lib.hid hrc
      have HBX3 := Lib.hid hbx
      have HGG3 := Lib.hid hgg
      have HFU3 := Lib.hid hfu
      have b3 := hbx.cell 3
      have hbl := hbx.lt
      have e9 := (le_below hrc.below) _ _ HE9.out
      have hgl4 := World.block_lt_of_cell? _ _ e9
      clear hpa hrc hbx hgg hfu
      by_cases hgo : jq < kids.length ∧ pb = true
      ·obtain ⟨hjl, hpb1⟩ := hgo
       obtain ⟨g5, o5, rfl, h50, h51⟩ := HL4.out jq _ (List.getElem?_eq_getElem hjl)
       have s1 := (le_below HRC4.out.below) _ _ h51
       have hstep : Cm.Step l x (kids[jq]).2 := (Cm.step_mem HNX.out).2 (List.mem_flatMap.2 ⟨_, HMK.out, by rw [HKN.out, if_pos hpb1]; exact List.mem_map.2 ⟨_, List.getElem_mem hjl, rfl⟩⟩)
       have HTK := Lib.hid (show (kids.take (jq + 1)).map (·.2) = (kids.take jq).map (·.2) ++ [(kids[jq]).2] by rw [List.take_succ_eq_append_getElem hjl, List.map_append]; rfl)
       clear h50 h51
       generalize (kids[jq]'hjl).2 = kn at *
       have hjqi : (jq : Int) < (kids.length : Int) := by omega
       have hgl5 := World.block_lt_of_cell? _ _ s1
       have hknl : kn < l.length := HIN.out.next hstep
       have hkni : (kn : Int) < (l.length : Int) := by omega
       obtain ⟨b, hb⟩ : ∃ b, out3[kn]? = some b := ⟨_, List.getElem?_eq_getElem (by rw [HPA3.out.len]; exact hknl)⟩
       have hoc := HRC4.out.out_.cell hb
       have hofz := Blk.frozen HRC4.out.out_ kn
       have hol := Blk.lt HRC4.out.out_
       have HPB := Lib.hid hpb1
       cases b with
       | true =>
        have HP4 := Lib.hid (HPA3.out.old hb)
        clear hstep hb
        go_wp2_with fail
        go_roundw
        case rel => exact ⟨g, off, cap, jq + 1, cs, todo, out3, rfl, by go_num, by omega, by have := HP4.out; rw [if_pos HPB.out] at this ⊢; rw [HTK.out, ← List.append_assoc]; exact this, HRC4.out, HBX3.out, HGG3.out, HFU3.out⟩
        case measure => simp [intOf]; omega
       | false =>
        have HP4 := Lib.hid (HPA3.out.mark hstep hknl)
        have hfs := Cm.falses_set out3 kn hb
        have hgne : ¬ g = go := by have := HRC4.out.todo_.at_; omega
        have hfu4 := HRC4.out.fuel
        obtain ⟨w5, hw5⟩ : ∃ W, W = wr.setCell ⟨go, kn, none⟩ (.bool true) := ⟨_, rfl⟩
        have hfar : ∀ b, ¬ b = go → w5.heap[b]? = wr.heap[b]? := fun b hb => by rw [hw5]; exact Below.heap_setCell wr ⟨go, kn, none⟩ _ b hb
        have HRC5 := Lib.hid (show Rch w go l.length g off cap cs todo (out3.set kn true) w5 from ⟨by rw [hw5]; exact HRC4.out.below.setCell (p := ⟨go, kn, none⟩) HRC4.out.new _, by rw [hw5]; exact HRC4.out.out_.mark kn, HRC4.out.todo_.far (hfar g hgne), HRC4.out.new, by omega⟩)
        have HBX5 := Lib.hid (show Blk w5 gb 39 #[.string ⟨tx.toArray⟩, .bool nall, .bool npass, .slice (some ⟨g3, o3, none⟩) keys.length c2] from (hfar gb (fun e => HGO.out e.symm)).trans HBX3.out)
        have HW5 := Lib.hid hw5
        clear hstep hb hfar hw5
        go_upto_region 16 with (fail)
        rw [← HW5.out]
        have HRC6 := Lib.hid (HRC5.out.on ((Below.refl w5.heap.size w5).alloc (Nat.le_refl _) (.cells #[.int .i64 (kn : Int)] 3)))
        have HBX6 := Lib.hid (HBX5.out.on ((Below.refl w5.heap.size w5).alloc (Nat.le_refl _) (.cells #[.int .i64 (kn : Int)] 3)))
        have HNW := Lib.hid (Blk.new w5 3 #[.int .i64 (kn : Int)])
        obtain ⟨i0, hi0, hz0, hz1, hz2⟩ := infoInt12
        have hfew := HRC4.out.todo_.few
        clear HW5 HRC4 HRC5 HBX5 HBX3 b3 hbl e9 hgl4 s1 hgl5 hoc hofz hol
        by_cases hroom : todo.length + 1 ≤ cap
        ·go_wp2_with (refine wpList_append_arg _ rfl _ _ _ rfl 3 i0 _ 1 8 Tryz.underlying110 hi0 hz0 hz1 hz2 rfl (by decide) g off todo.length cap (nums12 todo) rfl (by simp [nums12]) (fun j u hj => by rw [nums12, List.getElem?_map] at hj; obtain ⟨n, hn, rfl⟩ := Option.map_eq_some_iff.1 hj; exact HRC6.out.todo_.cell hn) ⟨w5.heap.size, 0, none⟩ 1 1 [.int .i64 (kn : Int)] rfl rfl (World.news_of_block HNW.out) (by simp [Value.oneCell']) (fun _ j hj => by
          have hj0 : j = 0 := by simpa using hj
          subst hj0
          have hrm := HRC6.out.todo_.room
          refine ⟨?_, HRC6.out.todo_.blk.frozen _⟩
          rw [HRC6.out.todo_.blk.cell, List.getElem?_toArray, List.getElem?_eq_getElem (by omega)]; rfl) (by unfold maxLen; omega) (by omega) (fun _ => ?_) (fun h => absurd hroom (by omega)))
         have HRC7 := Lib.hid (show Rch w go l.length g off cap (cs.set (off + todo.length) (.int .i64 (kn : Int))) (todo ++ [kn]) (out3.set kn true) ((w5.alloc (.cells #[.int .i64 (kn : Int)] 3)).setCells g (off + todo.length) [.int .i64 (kn : Int)]) from ⟨HRC6.out.below.setCell (p := ⟨g, off + todo.length, none⟩) (by have := HRC6.out.todo_.at_; have := HRC6.out.new; show w.heap.size ≤ g; omega) _, (Below.heap_setCell _ ⟨g, off + todo.length, none⟩ _ go (fun e => hgne e.symm)).trans HRC6.out.out_, HRC6.out.todo_.push kn hroom, HRC6.out.new, by rw [List.length_append, List.length_singleton]; omega⟩)
         have HBX7 := Lib.hid (show Blk ((w5.alloc (.cells #[.int .i64 (kn : Int)] 3)).setCells g (off + todo.length) [.int .i64 (kn : Int)]) gb 39 #[.string ⟨tx.toArray⟩, .bool nall, .bool npass, .slice (some ⟨g3, o3, none⟩) keys.length c2] from (Below.heap_setCell _ ⟨g, off + todo.length, none⟩ _ gb (fun e => HGG3.out e.symm)).trans HBX6.out)
         generalize (w5.alloc (.cells #[.int .i64 (kn : Int)] 3)).setCells g (off + todo.length) [.int .i64 (kn : Int)] = w7 at *
         go_wp2_with fail
         go_roundw
         case rel => exact ⟨g, off, cap, jq + 1, _, todo ++ [kn], ⟨⟨rfl, rfl⟩, by simp, rfl⟩, by omega, by omega, _, by have := HP4.out; rw [if_pos HPB.out] at this; rw [← List.map_take, HTK.out, ← List.append_assoc]; exact this, HRC7.out, HBX7.out, HGG3.out, by have := HFU3.out; rw [List.length_append, List.length_singleton]; omega⟩
         case measure => simp [intOf]; omega
        ·go_wp2_with (refine wpList_append_arg _ rfl _ _ _ rfl 3 i0 _ 1 8 Tryz.underlying110 hi0 hz0 hz1 hz2 rfl (by decide) g off todo.length cap (nums12 todo) rfl (by simp [nums12]) (fun j u hj => by rw [nums12, List.getElem?_map] at hj; obtain ⟨n, hn, rfl⟩ := Option.map_eq_some_iff.1 hj; exact HRC6.out.todo_.cell hn) ⟨w5.heap.size, 0, none⟩ 1 1 [.int .i64 (kn : Int)] rfl rfl (World.news_of_block HNW.out) (by simp [Value.oneCell']) (fun h => absurd h hroom) (by unfold maxLen; omega) (by omega) (fun h => absurd h hroom) (fun _ v7 w7 hown hgr => ?_))
         have hbg : Below (w5.alloc (.cells #[.int .i64 (kn : Int)] 3)).heap.size (w5.alloc (.cells #[.int .i64 (kn : Int)] 3)) w7 := ⟨hgr.os, hgr.tape, hgr.output, hgr.size, fun k hk => hgr.block k hk (by simp)⟩
         obtain ⟨g7, cap7, cs7, rfl, hg7, hto7⟩ := TodoAt.grown (B := go + 1) (todo := todo) (n := kn) (by have := Blk.lt HRC6.out.out_; omega) hown
         have HRC7 := Lib.hid (show Rch w go l.length g7 0 cap7 cs7 (todo ++ [kn]) (out3.set kn true) w7 from ⟨(HRC6.out.on hbg).below, (HRC6.out.on hbg).out_, hto7, HRC6.out.new, by rw [List.length_append, List.length_singleton]; omega⟩)
         have HBX7 := Lib.hid (HBX6.out.on hbg)
         have HG7 := Lib.hid (show ¬ g7 = gb by have := HBX6.out.lt; omega)
         clear hown hgr hbg hto7
         go_wp2_with fail
         go_roundw
         case rel => exact ⟨g7, 0, cap7, jq + 1, cs7, todo ++ [kn], by rw [List.length_append]; rfl, by omega, by omega, _, by have := HP4.out; rw [if_pos HPB.out] at this; rw [← List.map_take, HTK.out, ← List.append_assoc]; exact this, HRC7.out, HBX7.out, HG7.out, by have := HFU3.out; rw [List.length_append, List.length_singleton]; omega⟩
         case measure => simp [intOf]; omega
      ·have HEX := Lib.hid (show Cm.Part12 l i x ((keys.take (kq + 1)).flatMap Cm.keyNexts) out3 todo from by
        have hN : (keys.take (kq + 1)).flatMap Cm.keyNexts = (keys.take kq).flatMap Cm.keyNexts ++ Cm.keyNexts ⟨nm, kv, kids⟩ := HNT.out
        rw [hN, HKN.out]
        have := HPA3.out
        by_cases hpb : pb = true
        ·have hje : jq = kids.length := by have hnl : ¬ jq < kids.length := fun h => hgo ⟨h, hpb⟩; omega
         rw [hje, List.take_length] at this
         exact this
        ·rw [if_neg hpb] at this ⊢; exact this)
       by_cases hjl : jq < kids.length
       ·have hpf : pb = false := by
         rcases Bool.eq_false_or_eq_true pb with k | k
         ·exact absurd ⟨hjl, k⟩ hgo
         ·exact k
        have hjqi : (jq : Int) < (kids.length : Int) := by omega
        clear hgo
        go_wp2_with fail
        go_roundw
        case rel => exact ⟨g, off, cap, kq + 1, cs, todo, out3, rfl, by go_num, by omega, HEX.out, HRC4.out, HBX3.out, HGG3.out, HFU3.out⟩
        case measure => simp [intOf]; omega
       ·obtain rfl : jq = kids.length := by omega
        clear hgo
        go_wp2_with fail
        go_roundw
        case rel => exact ⟨g, off, cap, kq + 1, cs, todo, out3, rfl, by go_num, by omega, HEX.out, HRC4.out, HBX3.out, HGG3.out, HFU3.out⟩
        case measure => simp [intOf]; omega
    ·obtain rfl : kq = keys.length := by omega
     have HRF := Lib.hid (show Cm.Reaching l i out2 todo from HPA2.out.fin (fun m hm => by rw [List.take_length]; exact (Cm.step_mem HNX.out).1 hm))
     have HF2 := Lib.hid (OutAt.falses HRC2.out.out_)
     go_wp2_with fail
     go_roundw
     case rel => exact ⟨g, off, cap, cs, todo, out2, rfl, HRF.out, HRC2.out⟩
     case measure =>
      rw [HF2.out, HFO.out]
      have := HFU2.out
      show todo.length + _ < r.length + 1 + _
      omega

end Go.Proofs.YtolkfgikomminaaGreatDoor


