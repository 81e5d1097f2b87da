/- Dl: Dk Dl, in one text. -/
import Derived.Test.YticpgjhckjhfeaaDoorDa
import Derived.Test.YticpgjhckjhfeaaDoorDj
/- Plain mathematics of SchemaPaths (layer 11): a node's pointer is a text; kids' numbers so far. -/
namespace Go.Proofs.YticpgjhckjhfeaaDoor.Cm
open Js Pt

theorem txt_ascii : ∀ {l : List UInt8}, (∀ c ∈ l, c.toNat < 128) → St.Txt l
  | [], _ => .nil
  | c :: t, h => by
    have hc : c.toNat < 128 := h c (by simp)
    have e : St.utf8 (c :: t) = 1 := by
      unfold St.utf8 St.width
      rw [if_pos (by show (List.getD (c :: t) 0 0).toNat < 128; exact hc), if_pos (by simp)]
    refine .cons _ (by rw [e]; decide) ?_
    rw [e]
    exact txt_ascii (fun d hd => h d (List.mem_of_mem_drop hd))
theorem name_high : ∀ {l : List UInt8}, (∀ c ∈ l, 128 ≤ c.toNat) → name l = l
  | [], _ => rfl
  | c :: t, h => by
    have hc : 128 ≤ c.toNat := h c (by simp)
    have e : esc c = [c] := by
      unfold esc
      rw [if_neg (fun k => by rw [k] at hc; exact absurd hc (by decide)), if_neg (fun k => by rw [k] at hc; exact absurd hc (by decide))]
    show esc c ++ name t = c :: t
    rw [e, name_high (fun d hd => h d (by simp [hd]))]
    rfl
theorem txt_name {l : List UInt8} (h : St.Txt l) : St.Txt (name l) := by
  induction h with
  | nil => exact .nil
  | cons l h _ ih =>
    have e : name l = name (l.take (St.utf8 l)) ++ name (l.drop (St.utf8 l)) := by
      unfold name
      rw [← List.flatMap_append, List.take_append_drop]
    rw [e]
    refine St.Txt.append ?_ ih
    have hr : St.Txt (l.take (St.utf8 l)) := by rw [← St.encode_rune l h]; exact St.Txt.encode (St.rune_scalar l h)
    rcases St.utf8_cases l h with ⟨q, h0, _, hl⟩ | ⟨q, h0, _, h1, _, _, hl⟩ | ⟨q, h0, _, h1, h2, _, _, _, hl⟩ | ⟨q, h0, _, h1, h2, h3, _, _, _, hl⟩
    · obtain ⟨a, ht, ha⟩ := St.take_g1 l hl
      rw [q, ht]
      refine txt_ascii (fun c hc => ?_)
      simp only [name, List.flatMap_cons, List.flatMap_nil, List.append_nil] at hc
      unfold esc at hc
      split at hc
      · rcases List.mem_cons.1 hc with k | k
        · rw [k]; decide
        · rw [List.mem_singleton.1 k]; decide
      · split at hc
        · rcases List.mem_cons.1 hc with k | k
          · rw [k]; decide
          · rw [List.mem_singleton.1 k]; decide
        · rw [List.mem_singleton.1 hc]; omega
    · obtain ⟨a, b, ht, ha, hb⟩ := St.take_g2 l hl
      rw [q, ht] at hr ⊢
      rw [name_high (fun c hc => by simp only [List.mem_cons, List.not_mem_nil, or_false] at hc; rcases hc with rfl | rfl <;> omega)]
      exact hr
    · obtain ⟨a, b, c, ht, ha, hb, hc⟩ := St.take_g3 l hl
      rw [q, ht] at hr ⊢
      rw [name_high (fun d hd => by simp only [List.mem_cons, List.not_mem_nil, or_false] at hd; rcases hd with rfl | rfl | rfl <;> omega)]
      exact hr
    · obtain ⟨a, b, c, d, ht, ha, hb, hc, hd⟩ := St.take_g4 l hl
      rw [q, ht] at hr ⊢
      rw [name_high (fun e he => by simp only [List.mem_cons, List.not_mem_nil, or_false] at he; rcases he with rfl | rfl | rfl | rfl <;> omega)]
      exact hr
/-- A pointer of texts is a text. -/
theorem text_text : ∀ {P : Names}, (∀ n ∈ P, St.text n = true) → St.text (text P) = true := by
  intro P h
  refine Ps.text_of_txt ?_
  induction P with
  | nil => exact .nil
  | cons n t ih =>
    show St.Txt ((47 :: name n) ++ text t)
    refine St.Txt.append ?_ (ih (fun q hq => h q (by simp [hq])))
    show St.Txt ([47] ++ name n)
    exact St.Txt.append (txt_ascii (fun c hc => by rw [List.mem_singleton.1 hc]; decide)) (txt_name (St.text_txt (h n (by simp))))
theorem text_inj11 {l m : Names} (h : text l = text m) : l = m := by
  have h1 := parse_text l
  rw [h, parse_text m] at h1
  injection h1 with h1
  exact h1.symm
/-- The names that lead to what stands in a value that may be are texts. -/
theorem get_text : ∀ (ns : Names) (v x : Vl), v.may = true → get v ns = some x → ∀ n ∈ ns, St.text n = true
  | [], _, _, _, _ => fun n hn => by cases hn
  | nm :: ns, .mk k b n s l m, x, hm, h => by
    simp only [Vl.may, Bool.and_eq_true] at hm
    rw [Pt.get] at h
    split at h
    · split at h
      · rename_i y hy
        split at h
        · rename_i hi
          intro q hq
          rcases List.mem_cons.1 hq with rfl | hq
          · rcases Ed.index_true hi with ⟨h1, _⟩ | ⟨_, hg, _⟩
            · cases h1
            · refine Ps.text_of_txt (txt_ascii (fun c hc => ?_))
              unfold Ed.good at hg
              have hd : q.all Nm.dig = true := by
                rcases Bool.eq_false_or_eq_true (q.all Nm.dig) with k | k
                · exact k
                · exact absurd (.inr (.inl (by rw [k]; decide))) hg
              have := List.all_eq_true.1 hd c hc
              simp only [Nm.dig, Bool.and_eq_true, decide_eq_true_eq] at this
              obtain ⟨h1, h2⟩ := this
              have h3 : c.toNat ≤ 57 := h2
              omega
          · exact get_text ns y x ((mayL_iff l).1 hm.1.2 y (List.mem_of_getElem? hy)) h q hq
        · cases h
      · cases h
    · split at h
      · rename_i y hy
        rw [Ed.find_five] at hy
        split at hy
        · unfold find at hy
          obtain ⟨p, hp, rfl⟩ := Option.map_eq_some_iff.1 hy
          have hpm := List.mem_of_find?_eq_some hp
          have hpe : p.1 = nm := by simpa using List.find?_some hp
          have hmm := (mayM_iff m).1 hm.2.1 p hpm
          intro q hq
          rcases List.mem_cons.1 hq with rfl | hq
          · rw [← hpe]; exact hmm.1
          · exact get_text ns p.2 x hmm.2 h q hq
        · cases hy
      · cases h
/-- They are not many, and not long. -/
theorem get_small {N : Nat} (hN : 18 ≤ N) : ∀ (ns : Names) (v x : Vl), v.slim N → get v ns = some x → ns.length ≤ v.size ∧ (∀ n ∈ ns, n.length ≤ N) ∧ x.size ≤ v.size
  | [], v, x, _, h => by
    rw [Pt.get] at h
    injection h with h
    subst h
    exact ⟨Nat.zero_le _, (fun n hn => by cases hn), Nat.le_refl _⟩
  | nm :: ns, .mk k b n s l m, x, hs, h => by
    simp only [Vl.slim] at hs
    rw [Pt.get] at h
    simp only [Vl.size]
    split at h
    · split at h
      · rename_i y hy
        split at h
        · rename_i hi
          have hy2 := List.mem_of_getElem? hy
          have hz := sizeL_mem hy2
          obtain ⟨h1, h2, h3⟩ := get_small hN ns y x ((slimL_iff N l).1 hs.2.2.1 y hy2) h
          refine ⟨by simp only [List.length_cons]; omega, fun q hq => ?_, by omega⟩
          rcases List.mem_cons.1 hq with rfl | hq
          · rcases Ed.index_true hi with ⟨h1, _⟩ | ⟨_, hg, _⟩
            · cases h1
            · unfold Ed.good at hg
              rcases Nat.lt_or_ge 18 q.length with k | k
              · exact absurd (.inr (.inr (.inr k))) hg
              · omega
          · exact h2 q hq
        · cases h
      · cases h
    · split at h
      · rename_i y hy
        rw [Ed.find_five] at hy
        split at hy
        · unfold find at hy
          obtain ⟨p, hp, rfl⟩ := Option.map_eq_some_iff.1 hy
          have hpm := List.mem_of_find?_eq_some hp
          have hpe : p.1 = nm := by simpa using List.find?_some hp
          have hz := sizeM_mem hpm
          have hsl := (slimM_iff N m).1 hs.2.2.2 p hpm
          obtain ⟨h1, h2, h3⟩ := get_small hN ns p.2 x hsl.2 h
          refine ⟨by simp only [List.length_cons]; omega, fun q hq => ?_, by omega⟩
          rcases List.mem_cons.1 hq with rfl | hq
          · rw [← hpe]; exact hsl.1
          · exact h2 q hq
        · cases hy
      · cases h
/-- The kids' numbers so far are the beginning of all of them. -/
theorem keyNos_cons (K : Key) (r : List Key) : keyNos (K :: r) = K.kids.map (·.2) ++ keyNos r := by simp [keyNos]
theorem keyNos_append (a b : List Key) : keyNos (a ++ b) = keyNos a ++ keyNos b := by simp [keyNos]
theorem keyNos_next {keys : List Key} {k : Nat} {K : Key} (h : keys[k]? = some K) : keyNos (keys.take (k + 1)) = keyNos (keys.take k) ++ K.kids.map (·.2) := by
  obtain ⟨hk, rfl⟩ := List.getElem?_eq_some_iff.1 h
  rw [List.take_succ_eq_append_getElem hk, keyNos_append, keyNos_cons]
  simp [keyNos]
theorem kidNos_next {a : List Node} {i : Nat} {N : Node} (h : a[i]? = some N) : kidNos (a.take (i + 1)) = kidNos (a.take i) ++ keyNos N.keys := by
  obtain ⟨hi, rfl⟩ := List.getElem?_eq_some_iff.1 h
  rw [List.take_succ_eq_append_getElem hi, kidNos_append]
  congr 1
  simp [kidNos, keyNos]
theorem done_sub {a : List Node} {i k j : Nat} {N : Node} {K : Key} (hN : a[i]? = some N) (hK : N.keys[k]? = some K) : (kidNos (a.take i) ++ keyNos (N.keys.take k) ++ (K.kids.take j).map (·.2)).Sublist (kidNos a) := by
  have h1 : kidNos a = kidNos (a.take (i + 1)) ++ kidNos (a.drop (i + 1)) := by rw [← kidNos_append, List.take_append_drop]
  have h2 : keyNos N.keys = keyNos (N.keys.take (k + 1)) ++ keyNos (N.keys.drop (k + 1)) := by rw [← keyNos_append, List.take_append_drop]
  have h3 : K.kids.map (·.2) = (K.kids.take j).map (·.2) ++ (K.kids.drop j).map (·.2) := by rw [← List.map_append, List.take_append_drop]
  rw [h1, kidNos_next hN, h2, keyNos_next hK, h3]
  simp only [List.append_assoc]
  exact List.Sublist.append (List.Sublist.refl _) (List.Sublist.append (List.Sublist.refl _) (List.sublist_append_left _ _))
theorem count_few {a : List Node} {done : List Nat} (ho : Once 0 a) (h : done.Sublist (kidNos a)) (n : Nat) : done.count n ≤ 1 := by
  have h1 := h.count_le n
  rw [ho n] at h1
  unfold one at h1
  split at h1 <;> omega
/-- How often each number has come, as the cells of a list. -/
def counts (L : Nat) (done : List Nat) : List Value := (List.range L).map fun n => .int .i64 ((done.count n : Nat) : Int)
theorem counts_len (L : Nat) (done : List Nat) : (counts L done).length = L := by simp [counts]
theorem counts_at {L : Nat} {done : List Nat} {n : Nat} (h : n < L) : (counts L done)[n]? = some (.int .i64 ((done.count n : Nat) : Int)) := by
  unfold counts
  rw [List.getElem?_map, List.getElem?_range h]; rfl
theorem counts_next {L : Nat} {done : List Nat} {n : Nat} (_h : n < L) : (counts L done).set n (.int .i64 ((done.count n + 1 : Nat) : Int)) = counts L (done ++ [n]) := by
  refine List.ext_getElem? (fun q => ?_)
  rw [List.getElem?_set, counts_len]
  by_cases hq : q < L
  · rw [counts_at hq, counts_at hq]
    by_cases e : n = q
    · subst e
      rw [if_pos rfl, if_pos hq, List.count_append]
      simp
    · rw [if_neg e, List.count_append]
      have : [n].count q = 0 := by rw [List.count_singleton]; simp [e]
      rw [this, Nat.add_zero]
  · rw [List.getElem?_eq_none (by rw [counts_len]; omega), List.getElem?_eq_none (by rw [counts_len]; omega)]
    split
    · exfalso; omega
    · rfl
theorem counts_none (L : Nat) : counts L [] = (Array.replicate L (Value.int .i64 0)).toList := by
  refine List.ext_getElem? (fun q => ?_)
  by_cases hq : q < L
  · rw [counts_at hq]; simp [hq]
  · rw [List.getElem?_eq_none (by rw [counts_len]; omega), List.getElem?_eq_none (by simp; omega)]

end Go.Proofs.YticpgjhckjhfeaaDoor.Cm

/- The laws of layer 11 (schema), given what the program's Compile is to do: SchemaPaths. -/
namespace Go.Proofs.YticpgjhckjhfeaaDoor
open Go.RowKit Js Pt

/-- Pointer of the laws, of a node's pointer. -/
def LPtr11 (P : Cm.Names) (w : World) (e : Ending) (w' : World) : Prop :=
  Below w.heap.size w w' ∧ ∃ (A : Option Addr) (cp : Nat),
    ((text P).length ≤ 500 ∧ e = .returned (.tuple #[.slice A P.length cp, .int .i64 1]) ∧ Strs w'.cell? A P ∧ P.length ≤ cp ∧ cp ≤ maxLen) ∨ (¬ (text P).length ≤ 500 ∧ e = .returned (.tuple #[.slice none 0 0, .int .i64 0]))
theorem infoInt : ∃ i, Tryd.prog.info? 3 = some i ∧ i.zero = some (.int .i64 0) ∧ i.size = 1 ∧ i.bytes = 8 := info_of10 (by kernel_rfl)
theorem madeInts (L : Nat) : madeCells #[.int .i64 0] (L * 1) = (Cm.counts L []).toArray := by
  rw [Nat.mul_one]
  refine Array.ext (by rw [size_madeCells]; simp [Cm.counts]) (fun i h1 h2 => ?_)
  simp [madeCells, Cm.counts, Nat.mod_one]

/-- What SchemaPaths goes over: the nodes, the value's box, the numbers so far. -/
structure Pth (w2 : World) (gq : Nat) (L : Nat) (done : List Nat) (W : World) : Prop where
  below : Below w2.heap.size w2 W
  cnt : Blk W gq 3 (Cm.counts L done).toArray
  new : w2.heap.size ≤ gq
theorem Pth.on {w2 : World} {gq L : Nat} {done : List Nat} {W W' : World} (h : Pth w2 gq L done W) (hb : Below W.heap.size W W') : Pth w2 gq L done W' := ⟨h.below.trans (hb.mono h.below.size), h.cnt.on hb, h.new⟩
theorem Pth.count {w2 : World} {gq L : Nat} {done : List Nat} {W : World} (h : Pth w2 gq L done W) {n : Nat} (hn : n < L) : W.cell? ⟨gq, n, none⟩ = some (.int .i64 ((done.count n : Nat) : Int)) ∧ Pth w2 gq L (done ++ [n]) (W.setCell ⟨gq, n, none⟩ (.int .i64 ((done.count n + 1 : Nat) : Int))) := by
  refine ⟨?_, h.below.setCell (p := ⟨gq, n, none⟩) h.new _, ?_, h.new⟩
  · rw [h.cnt.cell, List.getElem?_toArray]; exact Cm.counts_at hn
  · have := Blk.setL h.cnt n (.int .i64 ((done.count n + 1 : Nat) : Int))
    rw [Cm.counts_next hn] at this
    exact this

end Go.Proofs.YticpgjhckjhfeaaDoor


