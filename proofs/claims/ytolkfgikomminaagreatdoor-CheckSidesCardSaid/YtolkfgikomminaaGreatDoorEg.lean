/- Plain mathematics for the program's Link (layer 12): what nodes' keywords hold; places by pointer; a search in depth. -/
import Derived.Test.YtolkfgikomminaaGreatDoorEa
import Derived.Test.YtolkfgikomminaaGreatDoorDh
namespace Go.Proofs.YtolkfgikomminaaGreatDoor.Cm
open Js Pt

section
variable {Q : Vl → Prop}
theorem kidsN_vals {nd : Nat → Names → Vl → Res (List Node)} (hnd : ∀ off P u a, nd off P u = .ok a → Q u → ∀ N ∈ a, ∀ K ∈ N.keys, Q K.v) {single : Bool} {under : Names} : ∀ {l : List Mem} {off : Nat} {ks : List (List UInt8 × Nat)} {a : List Node}, kidsN nd single under off l = .ok (ks, a) → (∀ p ∈ l, Q p.2) → ∀ N ∈ a, ∀ K ∈ N.keys, Q K.v
 | [], off, ks, a, e, _, N, hN, _, _ => by
  rw [kidsN] at e; injection e with e; injection e with e1 e2; subst e1 e2
  cases hN
 | (key, u) :: r, off, ks, a, e, hq, N, hN, K, hK => by
  obtain ⟨a1, ks2, a2, h1, h2, rfl, rfl⟩ := kidsN_cons e
  rcases List.mem_append.1 hN with k | k
  ·exact hnd _ _ _ _ h1 (hq (key, u) (by simp)) N k K hK
  ·exact kidsN_vals hnd h2 (fun p hp => hq p (by simp [hp])) N k K hK
theorem memsN_vals {nd : Nat → Names → Vl → Res (List Node)} (hnd : ∀ off P u a, nd off P u = .ok a → Q u → ∀ N ∈ a, ∀ K ∈ N.keys, Q K.v) (hk : ∀ nm v, Q v → ∀ p ∈ Sh.kids nm v, Q p.2) {P : Names} : ∀ {m : List Mem} {off : Nat} {keys : List Key} {a : List Node}, memsN nd P off m = .ok (keys, a) → (∀ p ∈ m, Q p.2) → (∀ K ∈ keys, Q K.v) ∧ ∀ N ∈ a, ∀ K ∈ N.keys, Q K.v
 | [], off, keys, a, e, _ => by
  rw [memsN] at e; injection e with e; injection e with e1 e2; subst e1 e2
  exact ⟨(fun K h => by cases h), fun N h => by cases h⟩
 | (nm, w) :: r, off, keys, a, e, hq => by
  obtain ⟨_, ks, a1, keys2, a2, h1, h2, rfl, rfl⟩ := memsN_cons e
  have hw : Q w := hq (nm, w) (by simp)
  obtain ⟨h3, h4⟩ := memsN_vals hnd hk h2 (fun p hp => hq p (by simp [hp]))
  refine ⟨fun K hK => ?_, fun N hN K hK => ?_⟩
  ·rcases List.mem_cons.1 hK with rfl | k
   ·exact hw
   ·exact h3 K k
  ·rcases List.mem_append.1 hN with k | k
   ·exact kidsN_vals hnd h1 (hk nm w hw) N k K hK
   ·exact h4 N k K hK
theorem node_vals (hm : ∀ k b n s l m, Q (.mk k b n s l m) → ∀ p ∈ m, Q p.2) (hk : ∀ nm v, Q v → ∀ p ∈ Sh.kids nm v, Q p.2) (f : Nat) : ∀ off P u a, node f off P u = .ok a → Q u → ∀ N ∈ a, ∀ K ∈ N.keys, Q K.v := by
 induction f with
 | zero => intro off P u a h; cases h
 | succ f ih =>
  intro off P u a h hu
  obtain ⟨k, b, n, s, l, m⟩ := u
  obtain ⟨_, keys, r, h1, rfl⟩ := node_inv h
  obtain ⟨h2, h3⟩ := memsN_vals ih hk h1 (hm _ _ _ _ _ _ hu)
  intro N hN K hK
  rcases List.mem_cons.1 hN with rfl | q
  ·exact h2 K hK
  ·exact h3 N q K hK
theorem compile_vals (hm : ∀ k b n s l m, Q (.mk k b n s l m) → ∀ p ∈ m, Q p.2) (hk : ∀ nm v, Q v → ∀ p ∈ Sh.kids nm v, Q p.2) {v : Vl} {a : List Node} (h : compile v = .ok a) (hv : Q v) : ∀ N ∈ a, ∀ K ∈ N.keys, Q K.v := by
 unfold compile at h
 split at h
 ·exact node_vals hm hk _ _ _ _ _ h hv
 ·cases h
end
theorem compile_slim {v : Vl} {a : List Node} (h : compile v = .ok a) (hv : v.slim 1000000) (hz : v.size ≤ 1000000) : ∀ N ∈ a, ∀ K ∈ N.keys, K.v.slim 1000000 ∧ K.v.size ≤ 1000000 := by
 refine compile_vals (Q := fun v => v.slim 1000000 ∧ v.size ≤ 1000000) ?_ ?_ h ⟨hv, hz⟩
 ·intro k b n s l m ⟨h1, h2⟩ p hp
  simp only [Vl.slim] at h1
  simp only [Vl.size] at h2
  have := sizeM_mem hp
  exact ⟨((slimM_iff _ m).1 h1.2.2.2 p hp).2, by omega⟩
 ·intro nm v ⟨h1, h2⟩ p hp
  have := kids_size hp
  exact ⟨(kids_slim10 (by omega) h1 h2 hp).2, by omega⟩
theorem str_small {v : Vl} {N : Nat} (h : v.slim N) : (Sh.strOf v).length ≤ N := by
 obtain ⟨k, b, n, s, l, m⟩ := v
 simp only [Vl.slim] at h
 exact h.2.1

theorem few_of_once : ∀ (n : Nat) (l : List Nat), (∀ x ∈ l, x < n) → (∀ x, l.count x ≤ 1) → l.length ≤ n
 | 0, l, h, _ => by
  cases l with
  | nil => simp
  | cons x r => exact absurd (h x (by simp)) (Nat.not_lt_zero _)
 | n + 1, l, h, hc => by
  have h1 := few_of_once n (l.filter fun x => !(x == n)) (fun x hx => by
   obtain ⟨h2, h3⟩ := List.mem_filter.1 hx
   have := h x h2
   have h4 : ¬ x = n := by simpa using h3
   omega) (fun x => Nat.le_trans (List.Sublist.count_le _ List.filter_sublist) (hc x))
  have h2 := List.length_eq_countP_add_countP (fun x => x == n) (l := l)
  have h3 := hc n
  rw [List.count] at h3
  rw [← List.countP_eq_length_filter] at h1
  have h4 : List.countP (fun x => !(x == n)) l = List.countP (fun a => decide ¬(a == n) = true) l := by
   congr 1
   funext a
   cases a == n <;> rfl
  omega
theorem kids_few {a : List Node} (ho : Once 0 a) {N : Node} {K : Key} (hN : N ∈ a) (hK : K ∈ N.keys) : K.kids.length ≤ a.length := by
 have hc : ∀ x, (K.kids.map (·.2)).count x ≤ one (0 + 1) (0 + a.length) x := fun x => by
  rw [← ho x]
  obtain ⟨s, t, rfl⟩ := List.append_of_mem hN
  obtain ⟨P, b1, b2, keys⟩ := N
  obtain ⟨s2, t2, rfl⟩ := List.append_of_mem (show K ∈ keys from hK)
  rw [kidNos_append, kidNos_cons, List.count_append, List.count_append, keyNos_append, keyNos_cons, List.count_append, List.count_append]
  omega
 have := few_of_once a.length (K.kids.map (·.2)) (fun x hx => by
  have h1 := hc x
  have h2 := List.count_pos_iff.2 hx
  unfold one at h1
  split at h1
  ·omega
  ·omega) (fun x => by
   have h1 := hc x
   unfold one at h1
   split at h1 <;> omega)
 rwa [List.length_map] at this

section
variable {l : List Node} {i x : Nat} {out : List Bool} {todo : List Nat}
end

end Go.Proofs.YtolkfgikomminaaGreatDoor.Cm

