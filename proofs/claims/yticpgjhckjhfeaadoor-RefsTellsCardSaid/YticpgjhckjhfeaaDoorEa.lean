/- Plain mathematics of layer 12 (refs): references, what leads in place. -/
import Derived.Test.YticpgjhckjhfeaaDoorDl
namespace Go.Proofs.YticpgjhckjhfeaaDoor.Cm
open Js Pt

def kRef : List UInt8 := [36, 114, 101, 102]
def placeNames : List (List UInt8) := [kRef, [97, 108, 108, 79, 102], [97, 110, 121, 79, 102], [111, 110, 101, 79, 102], [110, 111, 116]]
/-- Does a keyword lead on in place? -/
def place (nm : List UInt8) : Bool := placeNames.contains nm
/-- Where a keyword leads in place. -/
def keyNexts (K : Key) : List Nat := if place K.name = true then K.kids.map (·.2) else []
def nexts (N : Node) : List Nat := N.keys.flatMap keyNexts
def Step (l : List Node) (a b : Nat) : Prop := ∃ N, l[a]? = some N ∧ b ∈ nexts N
/-- What is led to in place, in one step or more. -/
inductive Leads (l : List Node) : Nat → Nat → Prop where
  | one {a b : Nat} : Step l a b → Leads l a b
  | more {a b c : Nat} : Leads l a b → Step l b c → Leads l a c
theorem Leads.on {l : List Node} {a b c : Nat} (h : a = b ∨ Leads l a b) (k : Step l b c) : Leads l a c := by
  rcases h with rfl | h
  · exact .one k
  · exact .more h k
/-- All numbers are nodes. -/
def Inside (l : List Node) : Prop := ∀ N ∈ l, ∀ K ∈ N.keys, ∀ p ∈ K.kids, p.2 < l.length
theorem Inside.next {l : List Node} (h : Inside l) {a b : Nat} (k : Step l a b) : b < l.length := by
  obtain ⟨N, hN, hb⟩ := k
  unfold nexts at hb
  obtain ⟨K, hK, hb⟩ := List.mem_flatMap.1 hb
  unfold keyNexts at hb
  split at hb
  · obtain ⟨p, hp, rfl⟩ := List.mem_map.1 hb
    exact h N (List.mem_of_getElem? hN) K hK p hp
  · cases hb
theorem inside_of {v : Vl} {a : List Node} (hv : v.may = true) (hs : v.size ≤ 1000000) (h : compile v = .ok a) : Inside a := fun N hN K hK p hp => by
  obtain ⟨_, _, _, _, _, hab⟩ := compile_stand hv hs h
  obtain ⟨i, hi⟩ := List.getElem?_of_mem hN
  have := (hab i N hi K hK p hp).2
  omega

/-! Reach, round by round: which are marked, which are still to be gone on from. -/
structure Reaching (l : List Node) (i : Nat) (out : List Bool) (todo : List Nat) : Prop where
  len : out.length = l.length
  sound : ∀ n, out[n]? = some true → Leads l i n
  from_ : ∀ n ∈ todo, n < l.length ∧ (n = i ∨ out[n]? = some true)
  closed : ∀ n, (n = i ∨ out[n]? = some true) → n ∈ todo ∨ ∀ m, Step l n m → out[m]? = some true
/-- .. while one node's keywords are gone through: done are those that were met. -/
structure Part12 (l : List Node) (i x : Nat) (done : List Nat) (out : List Bool) (todo : List Nat) : Prop where
  len : out.length = l.length
  sound : ∀ n, out[n]? = some true → Leads l i n
  from_ : ∀ n ∈ todo, n < l.length ∧ (n = i ∨ out[n]? = some true)
  closed : ∀ n, (n = i ∨ out[n]? = some true) → n ∈ todo ∨ n = x ∨ ∀ m, Step l n m → out[m]? = some true
  here : x = i ∨ out[x]? = some true
  met : ∀ m ∈ done, out[m]? = some true
section
variable {l : List Node} {i x : Nat} {done : List Nat} {out : List Bool} {todo : List Nat}
theorem Reaching.start (hi : i < l.length) : Reaching l i (List.replicate l.length false) [i] where
  len := by simp
  sound := fun n h => by
    obtain ⟨hn, e⟩ := List.getElem?_eq_some_iff.1 h
    rw [List.getElem_replicate] at e; cases e
  from_ := fun n hn => by rw [List.mem_singleton.1 hn]; exact ⟨hi, .inl rfl⟩
  closed := fun n hn => by
    rcases hn with rfl | h
    · exact .inl (by simp)
    · obtain ⟨hn, e⟩ := List.getElem?_eq_some_iff.1 h
      rw [List.getElem_replicate] at e; cases e
theorem Reaching.pop (h : Reaching l i out (x :: todo)) : Part12 l i x [] out todo where
  len := h.len
  sound := h.sound
  from_ := fun n hn => h.from_ n (by simp [hn])
  closed := fun n hn => by
    rcases h.closed n hn with k | k
    · rcases List.mem_cons.1 k with k | k
      · exact .inr (.inl k)
      · exact .inl k
    · exact .inr (.inr k)
  here := (h.from_ x (by simp)).2
  met := fun m hm => by cases hm
/-- A node that was marked before. -/
theorem Part12.old (h : Part12 l i x done out todo) {m : Nat} (hm : out[m]? = some true) : Part12 l i x (done ++ [m]) out todo :=
  ⟨h.len, h.sound, h.from_, h.closed, h.here, fun q hq => by
    rcases List.mem_append.1 hq with k | k
    · exact h.met q k
    · rw [List.mem_singleton.1 k]; exact hm⟩
/-- A node that is marked now. -/
theorem Part12.mark (h : Part12 l i x done out todo) {m : Nat} (hs : Step l x m) (hm : m < l.length) : Part12 l i x (done ++ [m]) (out.set m true) (todo ++ [m]) := by
  have hl : m < out.length := by rw [h.len]; exact hm
  have hset : ∀ n, out[n]? = some true → (out.set m true)[n]? = some true := fun n hn => by
    rw [List.getElem?_set]
    split
    · rename_i e; subst e; simp
    · exact hn
  have hget : ∀ n, (out.set m true)[n]? = some true → n = m ∨ out[n]? = some true := fun n hn => by
    rw [List.getElem?_set] at hn
    split at hn
    · rename_i e; exact .inl e.symm
    · exact .inr hn
  have hmm : (out.set m true)[m]? = some true := by rw [List.getElem?_set_self hl]
  refine ⟨by rw [List.length_set]; exact h.len, fun n hn => ?_, fun n hn => ?_, fun n hn => ?_, h.here.imp id (hset x), fun q hq => ?_⟩
  · rcases hget n hn with rfl | k
    · exact Leads.on (h.here.imp Eq.symm (h.sound x)) hs
    · exact h.sound n k
  · rcases List.mem_append.1 hn with k | k
    · exact ⟨(h.from_ n k).1, (h.from_ n k).2.imp id (hset n)⟩
    · rw [List.mem_singleton.1 k]; exact ⟨hm, .inr hmm⟩
  · have hn' : n = m ∨ (n = i ∨ out[n]? = some true) := by
      rcases hn with k | k
      · exact .inr (.inl k)
      · exact (hget n k).imp id .inr
    rcases hn' with rfl | k
    · exact .inl (by simp)
    · rcases h.closed n k with q | q | q
      · exact .inl (by simp [q])
      · exact .inr (.inl q)
      · exact .inr (.inr fun m' hs' => hset m' (q m' hs'))
  · rcases List.mem_append.1 hq with k | k
    · exact hset q (h.met q k)
    · rw [List.mem_singleton.1 k]; exact hmm
/-- All of a node's keywords were gone through. -/
theorem Part12.fin (h : Part12 l i x done out todo) (hd : ∀ m, Step l x m → m ∈ done) : Reaching l i out todo where
  len := h.len
  sound := h.sound
  from_ := h.from_
  closed := fun n hn => by
    rcases h.closed n hn with k | k | k
    · exact .inl k
    · subst k; exact .inr fun m hs => h.met m (hd m hs)
    · exact .inr k
/-- Nothing is left: what is marked is what is led to. -/
theorem Reaching.fin (h : Reaching l i out []) (n : Nat) : out[n]? = some true ↔ Leads l i n := by
  refine ⟨h.sound n, fun k => ?_⟩
  have hc : ∀ n, (n = i ∨ out[n]? = some true) → ∀ m, Step l n m → out[m]? = some true := fun n hn => (h.closed n hn).elim (fun q => by cases q) id
  induction k with
  | one s => exact hc _ (.inl rfl) _ s
  | more _ s ih => exact hc _ (.inr ih) _ s
theorem falses_set : ∀ (out : List Bool) (m : Nat), out[m]? = some false → (out.set m true).count false + 1 = out.count false
  | [], m, h => by simp at h
  | b :: r, 0, h => by
    have hb : b = false := by simpa using h
    subst hb
    simp
  | b :: r, m + 1, h => by
    have := falses_set r m (by simpa using h)
    cases b <;> simp <;> omega
end
/-- A node's keywords one after the other: which were met. -/
theorem nexts_take {N : Node} {k : Nat} {K : Key} (h : N.keys[k]? = some K) : (N.keys.take (k + 1)).flatMap keyNexts = (N.keys.take k).flatMap keyNexts ++ keyNexts K := by
  obtain ⟨hk, rfl⟩ := List.getElem?_eq_some_iff.1 h
  rw [List.take_succ_eq_append_getElem hk, List.flatMap_append]
  simp
theorem step_mem {l : List Node} {x m : Nat} {N : Node} (hN : l[x]? = some N) : Step l x m ↔ m ∈ N.keys.flatMap keyNexts := by
  constructor
  · rintro ⟨N', h, k⟩
    rw [hN] at h
    injection h with h
    subst h
    exact k
  · intro h; exact ⟨N, hN, h⟩

/-! Link. -/
/-- Which node a reference means: the last one of that pointer. -/
def refAt (l : List Node) (s : List UInt8) : Nat → Option Nat
  | 0 => none
  | j + 1 => if (l[j]?).map (fun N => decide (s = 35 :: text N.at_)) = some true then some j else refAt l s j
def linkKey (l : List Node) (P : Names) (K : Key) : Res Key :=
  if K.name = kRef then (match refAt l (Sh.strOf K.v) l.length with
    | none => .bad 12 (P ++ [kRef])
    | some j => .ok { K with kids := [([], j)] })
  else .ok K
def linkKeys (l : List Node) (P : Names) : List Key → Res (List Key)
  | [] => .ok []
  | K :: r => match linkKey l P K with
    | .bad c p => .bad c p
    | .ok K' => match linkKeys l P r with
      | .bad c p => .bad c p
      | .ok r' => .ok (K' :: r')
def linkNodes (l : List Node) : List Node → Res (List Node)
  | [] => .ok []
  | N :: r => match linkKeys l N.at_ N.keys with
    | .bad c p => .bad c p
    | .ok ks => match linkNodes l r with
      | .bad c p => .bad c p
      | .ok r' => .ok ({ N with keys := ks } :: r')
theorem refAt_lt {l : List Node} {s : List UInt8} : ∀ {f j : Nat}, refAt l s f = some j → j < f ∧ ∃ N, l[j]? = some N ∧ s = 35 :: text N.at_
  | 0, j, h => by cases h
  | f + 1, j, h => by
    rw [refAt] at h
    split at h
    · rename_i e
      injection h with h
      subst h
      cases hN : l[f]? with
      | none => rw [hN] at e; cases e
      | some N =>
        rw [hN] at e
        simp only [Option.map_some, Option.some.injEq, decide_eq_true_eq] at e
        exact ⟨by omega, N, rfl, e⟩
    · obtain ⟨h1, h2⟩ := refAt_lt h
      exact ⟨by omega, h2⟩
theorem refAt_next {l : List Node} {s : List UInt8} {f : Nat} {N : Node} (hN : l[f]? = some N) : refAt l s (f + 1) = if s = 35 :: text N.at_ then some f else refAt l s f := by
  rw [refAt, hN]
  simp
theorem linkKeys_append (l : List Node) (P : Names) (b : List Key) : ∀ a : List Key, linkKeys l P (a ++ b) = match linkKeys l P a with
    | .bad c p => .bad c p
    | .ok a' => match linkKeys l P b with
      | .bad c p => .bad c p
      | .ok b' => .ok (a' ++ b')
  | [] => by
    rw [List.nil_append, linkKeys]
    cases linkKeys l P b <;> rfl
  | K :: r => by
    rw [List.cons_append, linkKeys, linkKeys]
    cases linkKey l P K with
    | bad c p => rfl
    | ok K' =>
      simp only
      rw [linkKeys_append l P b r]
      cases linkKeys l P r with
      | bad c p => rfl
      | ok r' =>
        simp only
        cases linkKeys l P b <;> rfl
theorem linkNodes_append (l : List Node) (b : List Node) : ∀ a : List Node, linkNodes l (a ++ b) = match linkNodes l a with
    | .bad c p => .bad c p
    | .ok a' => match linkNodes l b with
      | .bad c p => .bad c p
      | .ok b' => .ok (a' ++ b')
  | [] => by
    rw [List.nil_append, linkNodes]
    cases linkNodes l b <;> rfl
  | N :: r => by
    rw [List.cons_append, linkNodes, linkNodes]
    cases linkKeys l N.at_ N.keys with
    | bad c p => rfl
    | ok K' =>
      simp only
      rw [linkNodes_append l b r]
      cases linkNodes l r with
      | bad c p => rfl
      | ok r' =>
        simp only
        cases linkNodes l b <;> rfl
theorem linkKeys_next {l : List Node} {P : Names} {keys ks : List Key} {k : Nat} (hk : k < keys.length) (h : linkKeys l P (keys.take k) = .ok ks) :
    (∀ K', linkKey l P keys[k] = .ok K' → linkKeys l P (keys.take (k + 1)) = .ok (ks ++ [K'])) ∧ (∀ c p, linkKey l P keys[k] = .bad c p → linkKeys l P keys = .bad c p) := by
  constructor
  · intro K' h2
    rw [List.take_succ_eq_append_getElem hk, linkKeys_append, h, linkKeys, h2]
    rfl
  · intro c p h2
    have e : keys = keys.take k ++ keys[k] :: keys.drop (k + 1) := by rw [← List.drop_eq_getElem_cons hk, List.take_append_drop]
    rw [e, linkKeys_append, h, linkKeys, h2]
theorem linkNodes_next {l ns os : List Node} {k : Nat} (hk : k < ns.length) (h : linkNodes l (ns.take k) = .ok os) :
    (∀ ks, linkKeys l ns[k].at_ ns[k].keys = .ok ks → linkNodes l (ns.take (k + 1)) = .ok (os ++ [{ ns[k] with keys := ks }])) ∧ (∀ c p, linkKeys l ns[k].at_ ns[k].keys = .bad c p → linkNodes l ns = .bad c p) := by
  constructor
  · intro ks h2
    rw [List.take_succ_eq_append_getElem hk, linkNodes_append, h, linkNodes, h2]
    rfl
  · intro c p h2
    have e : ns = ns.take k ++ ns[k] :: ns.drop (k + 1) := by rw [← List.drop_eq_getElem_cons hk, List.take_append_drop]
    rw [e, linkNodes_append, h, linkNodes, h2]
/-- What a linked keyword is. -/
def Linked (n : Nat) (K K' : Key) : Prop := K'.name = K.name ∧ K'.v = K.v ∧ ((K.name = kRef ∧ ∃ j, j < n ∧ K'.kids = [([], j)]) ∨ (¬ K.name = kRef ∧ K'.kids = K.kids))
theorem linkKey_ok {l : List Node} {P : Names} {K K' : Key} (h : linkKey l P K = .ok K') : Linked l.length K K' := by
  unfold linkKey at h
  split at h
  · rename_i hr
    split at h
    · cases h
    · rename_i j hj
      injection h with h
      subst h
      exact ⟨rfl, rfl, .inl ⟨hr, j, (refAt_lt hj).1, rfl⟩⟩
  · rename_i hr
    injection h with h
    subst h
    exact ⟨rfl, rfl, .inr ⟨hr, rfl⟩⟩
theorem linkKeys_ok {l : List Node} {P : Names} : ∀ {keys ks : List Key}, linkKeys l P keys = .ok ks → ks.length = keys.length ∧ ∀ (k : Nat) K, keys[k]? = some K → ∃ K', ks[k]? = some K' ∧ Linked l.length K K'
  | [], ks, h => by
    rw [linkKeys] at h; injection h with h; subst h
    exact ⟨rfl, fun k K hk => by simp at hk⟩
  | K :: r, ks, h => by
    rw [linkKeys] at h
    cases h1 : linkKey l P K with
    | bad c p => rw [h1] at h; cases h
    | ok K' =>
      rw [h1] at h
      simp only at h
      cases h2 : linkKeys l P r with
      | bad c p => rw [h2] at h; cases h
      | ok r' =>
        rw [h2] at h
        simp only [Res.ok.injEq] at h
        subst h
        obtain ⟨q1, q2⟩ := linkKeys_ok h2
        refine ⟨by simp [q1], fun k X hX => ?_⟩
        cases k with
        | zero =>
          have : K = X := by simpa using hX
          subst this
          exact ⟨K', rfl, linkKey_ok h1⟩
        | succ k => exact q2 k X (by simpa using hX)
theorem linkNodes_ok {l : List Node} : ∀ {ns os : List Node}, linkNodes l ns = .ok os → os.length = ns.length ∧ ∀ (k : Nat) N, ns[k]? = some N → ∃ ks, os[k]? = some { N with keys := ks } ∧ linkKeys l N.at_ N.keys = .ok ks
  | [], os, h => by
    rw [linkNodes] at h; injection h with h; subst h
    exact ⟨rfl, fun k K hk => by simp at hk⟩
  | N :: r, os, h => by
    rw [linkNodes] at h
    cases h1 : linkKeys l N.at_ N.keys with
    | bad c p => rw [h1] at h; cases h
    | ok ks =>
      rw [h1] at h
      simp only at h
      cases h2 : linkNodes l r with
      | bad c p => rw [h2] at h; cases h
      | ok r' =>
        rw [h2] at h
        simp only [Res.ok.injEq] at h
        subst h
        obtain ⟨q1, q2⟩ := linkNodes_ok h2
        refine ⟨by simp [q1], fun k X hX => ?_⟩
        cases k with
        | zero =>
          have : N = X := by simpa using hX
          subst this
          exact ⟨ks, rfl, h1⟩
        | succ k => exact q2 k X (by simpa using hX)
/-- All numbers of linked nodes are nodes. -/
theorem linked_inside {l os : List Node} (hi : Inside l) (h : linkNodes l l = .ok os) : Inside os ∧ os.length = l.length := by
  obtain ⟨h1, h2⟩ := linkNodes_ok h
  refine ⟨fun N' hN' K' hK' p hp => ?_, h1⟩
  obtain ⟨k, hk⟩ := List.getElem?_of_mem hN'
  have hkl : k < l.length := by have := (List.getElem?_eq_some_iff.1 hk).1; omega
  obtain ⟨ks, e1, e2⟩ := h2 k _ (List.getElem?_eq_getElem hkl)
  rw [hk] at e1
  injection e1 with e1
  subst e1
  obtain ⟨q1, q2⟩ := linkKeys_ok e2
  obtain ⟨j, hj⟩ := List.getElem?_of_mem hK'
  have hj0 : ks[j]? = some K' := hj
  have hjl : j < l[k].keys.length := by have := (List.getElem?_eq_some_iff.1 hj0).1; omega
  obtain ⟨K2, e3, _, _, hkd⟩ := q2 j _ (List.getElem?_eq_getElem hjl)
  rw [hj0] at e3
  injection e3 with e3
  subst e3
  rw [h1]
  rcases hkd with ⟨_, j', hj', e⟩ | ⟨_, e⟩
  · rw [e] at hp
    rw [List.mem_singleton.1 hp]; exact hj'
  · rw [e] at hp
    exact hi _ (List.getElem_mem hkl) _ (List.getElem_mem hjl) p hp

open Classical in
/-- The first of so many nodes that leads to itself. -/
noncomputable def ringFrom (out : List Node) : Nat → Nat → Option Nat
  | _, 0 => none
  | i, f + 1 => if Leads out i i then some i else ringFrom out (i + 1) f
theorem ring_some {out : List Node} : ∀ {f i j : Nat}, ringFrom out i f = some j → i ≤ j ∧ j < i + f ∧ Leads out j j ∧ ∀ q, i ≤ q → q < j → ¬ Leads out q q
  | 0, i, j, h => by cases h
  | f + 1, i, j, h => by
    rw [ringFrom] at h
    split at h
    · rename_i hl
      injection h with h
      subst h
      exact ⟨Nat.le_refl _, by omega, hl, fun q h1 h2 => absurd h2 (by omega)⟩
    · rename_i hl
      obtain ⟨h1, h2, h3, h4⟩ := ring_some h
      refine ⟨by omega, by omega, h3, fun q q1 q2 => ?_⟩
      by_cases e : q = i
      · subst e; exact hl
      · exact h4 q (by omega) q2
theorem ring_none {out : List Node} : ∀ {f i : Nat}, ringFrom out i f = none → ∀ q, i ≤ q → q < i + f → ¬ Leads out q q
  | 0, i, _, q, h1, h2 => absurd h2 (by omega)
  | f + 1, i, h, q, h1, h2 => by
    rw [ringFrom] at h
    split at h
    · cases h
    · rename_i hl
      by_cases e : q = i
      · subst e; exact hl
      · exact ring_none h q (by omega) (by omega)
/-- The other way: who finds the first, or that there is none, has what is told. -/
theorem ring_is {out : List Node} {j : Nat} (hj : j < out.length) (h : Leads out j j) (hf : ∀ q, q < j → ¬ Leads out q q) : ringFrom out 0 out.length = some j := by
  cases e : ringFrom out 0 out.length with
  | none => exact absurd h (ring_none e j (Nat.zero_le _) (by omega))
  | some i =>
    obtain ⟨_, h2, h3, h4⟩ := ring_some e
    rcases Nat.lt_trichotomy i j with k | k | k
    · exact absurd h3 (hf i k)
    · rw [k]
    · exact absurd h (h4 j (Nat.zero_le _) k)
theorem ring_not {out : List Node} (hf : ∀ q, q < out.length → ¬ Leads out q q) : ringFrom out 0 out.length = none := by
  cases e : ringFrom out 0 out.length with
  | none => rfl
  | some i =>
    obtain ⟨_, h2, h3, _⟩ := ring_some e
    exact absurd h3 (hf i (by omega))
noncomputable def link (l : List Node) : Res (List Node) :=
  match linkNodes l l with
  | .bad c p => .bad c p
  | .ok out => match ringFrom out 0 out.length with
    | some i => .bad 13 ((out[i]?).map (·.at_)).get!
    | none => .ok out

end Go.Proofs.YticpgjhckjhfeaaDoor.Cm

