/- Plain mathematics for the program's Link (layer 12): what nodes' keywords hold; places by pointer; a search in depth. -/
import Derived.Test.YticpgjhckjhfeaaDoorEa
import Derived.Test.YticpgjhckjhfeaaDoorDh
namespace Go.Proofs.YticpgjhckjhfeaaDoor.Cm
open Js Pt

/-! What holds of a value and of all within it holds of all keywords' values. -/
section
variable {Q : Vl → Prop}
theorem kidsN_vals {nd : Nat → Names → Vl → Res (List Node)} (hnd : ∀ off P u a, nd off P u = .ok a → Q u → ∀ N ∈ a, ∀ K ∈ N.keys, Q K.v) {single : Bool} {under : Names} : ∀ {l : List Mem} {off : Nat} {ks : List (List UInt8 × Nat)} {a : List Node}, kidsN nd single under off l = .ok (ks, a) → (∀ p ∈ l, Q p.2) → ∀ N ∈ a, ∀ K ∈ N.keys, Q K.v
  | [], off, ks, a, e, _, N, hN, _, _ => by
    rw [kidsN] at e; injection e with e; injection e with e1 e2; subst e1 e2
    cases hN
  | (key, u) :: r, off, ks, a, e, hq, N, hN, K, hK => by
    obtain ⟨a1, ks2, a2, h1, h2, rfl, rfl⟩ := kidsN_cons e
    rcases List.mem_append.1 hN with k | k
    · exact hnd _ _ _ _ h1 (hq (key, u) (by simp)) N k K hK
    · exact kidsN_vals hnd h2 (fun p hp => hq p (by simp [hp])) N k K hK
theorem memsN_vals {nd : Nat → Names → Vl → Res (List Node)} (hnd : ∀ off P u a, nd off P u = .ok a → Q u → ∀ N ∈ a, ∀ K ∈ N.keys, Q K.v) (hk : ∀ nm v, Q v → ∀ p ∈ Sh.kids nm v, Q p.2) {P : Names} : ∀ {m : List Mem} {off : Nat} {keys : List Key} {a : List Node}, memsN nd P off m = .ok (keys, a) → (∀ p ∈ m, Q p.2) → (∀ K ∈ keys, Q K.v) ∧ ∀ N ∈ a, ∀ K ∈ N.keys, Q K.v
  | [], off, keys, a, e, _ => by
    rw [memsN] at e; injection e with e; injection e with e1 e2; subst e1 e2
    exact ⟨(fun K h => by cases h), fun N h => by cases h⟩
  | (nm, w) :: r, off, keys, a, e, hq => by
    obtain ⟨_, ks, a1, keys2, a2, h1, h2, rfl, rfl⟩ := memsN_cons e
    have hw : Q w := hq (nm, w) (by simp)
    obtain ⟨h3, h4⟩ := memsN_vals hnd hk h2 (fun p hp => hq p (by simp [hp]))
    refine ⟨fun K hK => ?_, fun N hN K hK => ?_⟩
    · rcases List.mem_cons.1 hK with rfl | k
      · exact hw
      · exact h3 K k
    · rcases List.mem_append.1 hN with k | k
      · exact kidsN_vals hnd h1 (hk nm w hw) N k K hK
      · exact h4 N k K hK
theorem node_vals (hm : ∀ k b n s l m, Q (.mk k b n s l m) → ∀ p ∈ m, Q p.2) (hk : ∀ nm v, Q v → ∀ p ∈ Sh.kids nm v, Q p.2) (f : Nat) : ∀ off P u a, node f off P u = .ok a → Q u → ∀ N ∈ a, ∀ K ∈ N.keys, Q K.v := by
  induction f with
  | zero => intro off P u a h; cases h
  | succ f ih =>
    intro off P u a h hu
    obtain ⟨k, b, n, s, l, m⟩ := u
    obtain ⟨_, keys, r, h1, rfl⟩ := node_inv h
    obtain ⟨h2, h3⟩ := memsN_vals ih hk h1 (hm _ _ _ _ _ _ hu)
    intro N hN K hK
    rcases List.mem_cons.1 hN with rfl | q
    · exact h2 K hK
    · exact h3 N q K hK
theorem compile_vals (hm : ∀ k b n s l m, Q (.mk k b n s l m) → ∀ p ∈ m, Q p.2) (hk : ∀ nm v, Q v → ∀ p ∈ Sh.kids nm v, Q p.2) {v : Vl} {a : List Node} (h : compile v = .ok a) (hv : Q v) : ∀ N ∈ a, ∀ K ∈ N.keys, Q K.v := by
  unfold compile at h
  split at h
  · exact node_vals hm hk _ _ _ _ _ h hv
  · cases h
end
/-- All keywords' values are small. -/
theorem compile_slim {v : Vl} {a : List Node} (h : compile v = .ok a) (hv : v.slim 1000000) (hz : v.size ≤ 1000000) : ∀ N ∈ a, ∀ K ∈ N.keys, K.v.slim 1000000 ∧ K.v.size ≤ 1000000 := by
  refine compile_vals (Q := fun v => v.slim 1000000 ∧ v.size ≤ 1000000) ?_ ?_ h ⟨hv, hz⟩
  · intro k b n s l m ⟨h1, h2⟩ p hp
    simp only [Vl.slim] at h1
    simp only [Vl.size] at h2
    have := sizeM_mem hp
    exact ⟨((slimM_iff _ m).1 h1.2.2.2 p hp).2, by omega⟩
  · intro nm v ⟨h1, h2⟩ p hp
    have := kids_size hp
    exact ⟨(kids_slim10 (by omega) h1 h2 hp).2, by omega⟩
theorem str_small {v : Vl} {N : Nat} (h : v.slim N) : (Sh.strOf v).length ≤ N := by
  obtain ⟨k, b, n, s, l, m⟩ := v
  simp only [Vl.slim] at h
  exact h.2.1

/-! Few kids. -/
theorem few_of_once : ∀ (n : Nat) (l : List Nat), (∀ x ∈ l, x < n) → (∀ x, l.count x ≤ 1) → l.length ≤ n
  | 0, l, h, _ => by
    cases l with
    | nil => simp
    | cons x r => exact absurd (h x (by simp)) (Nat.not_lt_zero _)
  | n + 1, l, h, hc => by
    have h1 := few_of_once n (l.filter fun x => !(x == n)) (fun x hx => by
      obtain ⟨h2, h3⟩ := List.mem_filter.1 hx
      have := h x h2
      have h4 : ¬ x = n := by simpa using h3
      omega) (fun x => Nat.le_trans (List.Sublist.count_le _ List.filter_sublist) (hc x))
    have h2 := List.length_eq_countP_add_countP (fun x => x == n) (l := l)
    have h3 := hc n
    rw [List.count] at h3
    rw [← List.countP_eq_length_filter] at h1
    have h4 : List.countP (fun x => !(x == n)) l = List.countP (fun a => decide ¬(a == n) = true) l := by
      congr 1
      funext a
      cases a == n <;> rfl
    omega
theorem kids_few {a : List Node} (ho : Once 0 a) {N : Node} {K : Key} (hN : N ∈ a) (hK : K ∈ N.keys) : K.kids.length ≤ a.length := by
  have hc : ∀ x, (K.kids.map (·.2)).count x ≤ one (0 + 1) (0 + a.length) x := fun x => by
    rw [← ho x]
    obtain ⟨s, t, rfl⟩ := List.append_of_mem hN
    obtain ⟨P, b1, b2, keys⟩ := N
    obtain ⟨s2, t2, rfl⟩ := List.append_of_mem (show K ∈ keys from hK)
    rw [kidNos_append, kidNos_cons, List.count_append, List.count_append, keyNos_append, keyNos_cons, List.count_append, List.count_append]
    omega
  have := few_of_once a.length (K.kids.map (·.2)) (fun x hx => by
    have h1 := hc x
    have h2 := List.count_pos_iff.2 hx
    unfold one at h1
    split at h1
    · omega
    · omega) (fun x => by
      have h1 := hc x
      unfold one at h1
      split at h1 <;> omega)
  rwa [List.length_map] at this

/-! What leads in place from a node: how many. -/
theorem flat_few {α : Type} {f : α → List Nat} {n : Nat} : ∀ (l : List α), (∀ x ∈ l, (f x).length ≤ n) → (l.flatMap f).length ≤ l.length * n
  | [], _ => by simp
  | x :: r, h => by
    have h1 := flat_few r (fun y hy => h y (by simp [hy]))
    have h2 := h x (by simp)
    rw [List.flatMap_cons, List.length_append, List.length_cons, Nat.add_mul]
    omega
theorem keyNexts_few {K : Key} {n : Nat} (h : K.kids.length ≤ n) : (keyNexts K).length ≤ n := by
  unfold keyNexts
  split
  · rwa [List.length_map]
  · exact Nat.zero_le _
theorem nexts_few {N : Node} (h1 : N.keys.length ≤ 1000000) (h2 : ∀ K ∈ N.keys, K.kids.length ≤ 200) : (nexts N).length ≤ 200000000 := by
  have h3 := flat_few (f := keyNexts) N.keys (fun K hK => keyNexts_few (h2 K hK))
  unfold nexts
  omega
theorem linked_few {l os : List Node} (h : linkNodes l l = .ok os) (h1 : ∀ N ∈ l, N.keys.length ≤ 1000000) (h2 : ∀ N ∈ l, ∀ K ∈ N.keys, K.kids.length ≤ 200) : ∀ N ∈ os, N.keys.length ≤ 1000000 ∧ ∀ K ∈ N.keys, K.kids.length ≤ 200 := by
  obtain ⟨hl, hq⟩ := linkNodes_ok h
  intro N' hN'
  obtain ⟨k, hk⟩ := List.getElem?_of_mem hN'
  have hkl : k < l.length := by have := (List.getElem?_eq_some_iff.1 hk).1; omega
  obtain ⟨ks, e1, e2⟩ := hq k _ (List.getElem?_eq_getElem hkl)
  rw [hk] at e1
  injection e1 with e1
  subst e1
  obtain ⟨q1, q2⟩ := linkKeys_ok e2
  refine ⟨by show ks.length ≤ _; rw [q1]; exact h1 _ (List.getElem_mem hkl), fun K' hK' => ?_⟩
  obtain ⟨j, hj⟩ := List.getElem?_of_mem hK'
  have hj0 : ks[j]? = some K' := hj
  have hjl : j < l[k].keys.length := by have := (List.getElem?_eq_some_iff.1 hj0).1; omega
  obtain ⟨K2, e3, _, _, hkd⟩ := q2 j _ (List.getElem?_eq_getElem hjl)
  rw [hj0] at e3
  injection e3 with e3
  subst e3
  rcases hkd with ⟨_, j', hj', e⟩ | ⟨_, e⟩
  · rw [e]; simp
  · rw [e]; exact h2 _ (List.getElem_mem hkl) _ (List.getElem_mem hjl)

/-! Places by pointer. -/
theorem plc_next {l : List Node} {k : List UInt8} {f : Nat} {N : Node} (hN : l[f]? = some N) : refAt l (35 :: k) (f + 1) = if text N.at_ = k then some f else refAt l (35 :: k) f := by
  rw [refAt_next hN]
  by_cases h : text N.at_ = k
  · rw [if_pos h, if_pos (by rw [h])]
  · rw [if_neg h, if_neg (fun e => h (by injection e with _ e; exact e.symm))]
theorem plc_none {l : List Node} {s : List UInt8} (h : ∀ k, ¬ s = 35 :: k) : ∀ f, refAt l s f = none
  | 0 => rfl
  | f + 1 => by
    rw [refAt, if_neg, plc_none h f]
    cases l[f]? with
    | none => simp
    | some N => simp [h]

/-! A search in depth: whether what leads in place from i comes back to i. -/
structure Dfs (l : List Node) (i : Nat) (out : List Bool) (todo : List Nat) : Prop where
  len : out.length = l.length
  led : ∀ n ∈ todo, Leads l i n
  met : ∀ n, out[n]? = some true → ¬ n = i
  closed : ∀ n, (n = i ∨ out[n]? = some true) → ∀ m, Step l n m → m ∈ todo ∨ out[m]? = some true
  few : todo.length + 200000000 * out.count false ≤ 200000000 * (l.length + 1)
section
variable {l : List Node} {i x : Nat} {out : List Bool} {todo : List Nat}
theorem Dfs.start {N : Node} (hN : l[i]? = some N) (hf : (nexts N).length ≤ 200000000) : Dfs l i (List.replicate l.length false) (nexts N) where
  len := by simp
  led := fun n hn => .one ⟨N, hN, hn⟩
  met := fun n h => by
    obtain ⟨hn, e⟩ := List.getElem?_eq_some_iff.1 h
    rw [List.getElem_replicate] at e; cases e
  closed := fun n hn m hs => by
    rcases hn with rfl | h
    · obtain ⟨N', hN', hm⟩ := hs
      rw [hN] at hN'; injection hN' with hN'; subst hN'
      exact .inl hm
    · obtain ⟨hn, e⟩ := List.getElem?_eq_some_iff.1 h
      rw [List.getElem_replicate] at e; cases e
  few := by rw [List.count_replicate_self]; omega
/-- The last one is the first: it leads to itself. -/
theorem Dfs.hit (h : Dfs l i out (todo ++ [i])) : Leads l i i := h.led i (by simp)
/-- .. or it was met before. -/
theorem Dfs.old (h : Dfs l i out (todo ++ [x])) (hx : out[x]? = some true) : Dfs l i out todo where
  len := h.len
  led := fun n hn => h.led n (by simp [hn])
  met := h.met
  closed := fun n hn m hs => by
    rcases h.closed n hn m hs with k | k
    · rcases List.mem_append.1 k with k | k
      · exact .inl k
      · rw [List.mem_singleton.1 k]; exact .inr hx
    · exact .inr k
  few := by have := h.few; rw [List.length_append, List.length_singleton] at this; omega
/-- .. or it is met now. -/
theorem Dfs.mark (h : Dfs l i out (todo ++ [x])) {N : Node} (hN : l[x]? = some N) (hxi : ¬ x = i) (hx : out[x]? = some false) (hf : (nexts N).length ≤ 200000000) : Dfs l i (out.set x true) (todo ++ nexts N) := by
  have hxl : x < out.length := (List.getElem?_eq_some_iff.1 hx).1
  have hset : ∀ n, out[n]? = some true → (out.set x true)[n]? = some true := fun n hn => by
    rw [List.getElem?_set]
    split
    · rename_i e; subst e; simp
    · exact hn
  have hget : ∀ n, (out.set x true)[n]? = some true → n = x ∨ out[n]? = some true := fun n hn => by
    rw [List.getElem?_set] at hn
    split at hn
    · rename_i e; exact .inl e.symm
    · exact .inr hn
  have hxx : (out.set x true)[x]? = some true := by rw [List.getElem?_set_self hxl]
  refine ⟨by rw [List.length_set]; exact h.len, fun n hn => ?_, fun n hn => ?_, fun n hn m hs => ?_, ?_⟩
  · rcases List.mem_append.1 hn with k | k
    · exact h.led n (by simp [k])
    · exact .more (h.led x (by simp)) ⟨N, hN, k⟩
  · rcases hget n hn with rfl | k
    · exact hxi
    · exact h.met n k
  · have hn' : n = x ∨ (n = i ∨ out[n]? = some true) := by
      rcases hn with k | k
      · exact .inr (.inl k)
      · exact (hget n k).imp id .inr
    rcases hn' with rfl | k
    · obtain ⟨N', hN', hm⟩ := hs
      rw [hN] at hN'; injection hN' with hN'; subst hN'
      exact .inl (by simp [hm])
    · rcases h.closed n k m hs with q | q
      · rcases List.mem_append.1 q with q | q
        · exact .inl (by simp [q])
        · rw [List.mem_singleton.1 q]; exact .inr hxx
      · exact .inr (hset m q)
  · have h1 := h.few
    have h2 := falses_set out x hx
    rw [List.length_append, List.length_singleton] at h1
    rw [List.length_append]
    omega
/-- Nothing is left: it doesn't come back. -/
theorem Dfs.fin (h : Dfs l i out []) : ¬ Leads l i i := fun k => by
  have hall : ∀ n, Leads l i n → out[n]? = some true := fun n hn => by
    induction hn with
    | one s => exact (h.closed _ (.inl rfl) _ s).elim (fun q => by cases q) id
    | more _ s ih => exact (h.closed _ (.inr ih) _ s).elim (fun q => by cases q) id
  exact h.met i (hall i k) rfl
end

end Go.Proofs.YticpgjhckjhfeaaDoor.Cm

