/- Plain mathematics of layer 10 (shape): keywords, and what values they may have. (By gen_ca.py.) -/
import Derived.Test.YtolkfgikomminaaGreatDoorMc
namespace Go.Proofs.YtolkfgikomminaaGreatDoor.Sh
open Js

def kws : List (List UInt8 × Nat) := [
 ([116, 121, 112, 101], 1),
 ([101, 110, 117, 109], 2),
 ([99, 111, 110, 115, 116], 3),
 ([109, 105, 110, 105, 109, 117, 109], 4),
 ([109, 97, 120, 105, 109, 117, 109], 4),
 ([109, 105, 110, 76, 101, 110, 103, 116, 104], 5),
 ([109, 97, 120, 76, 101, 110, 103, 116, 104], 5),
 ([109, 105, 110, 73, 116, 101, 109, 115], 5),
 ([109, 97, 120, 73, 116, 101, 109, 115], 5),
 ([117, 110, 105, 113, 117, 101, 73, 116, 101, 109, 115], 6),
 ([114, 101, 113, 117, 105, 114, 101, 100], 7),
 ([105, 116, 101, 109, 115], 8),
 ([97, 100, 100, 105, 116, 105, 111, 110, 97, 108, 80, 114, 111, 112, 101, 114, 116, 105, 101, 115], 8),
 ([110, 111, 116], 8),
 ([112, 114, 111, 112, 101, 114, 116, 105, 101, 115], 9),
 ([36, 100, 101, 102, 115], 9),
 ([97, 108, 108, 79, 102], 10),
 ([97, 110, 121, 79, 102], 10),
 ([111, 110, 101, 79, 102], 10),
 ([36, 114, 101, 102], 11)]
def typeNames : List (List UInt8) := [[110, 117, 108, 108], [98, 111, 111, 108, 101, 97, 110], [110, 117, 109, 98, 101, 114], [105, 110, 116, 101, 103, 101, 114], [115, 116, 114, 105, 110, 103], [97, 114, 114, 97, 121], [111, 98, 106, 101, 99, 116]]
def kw (nm : List UInt8) : Nat := ((kws.find? (fun p => p.1 == nm)).map (·.2)).getD 0
def kindOf : Vl → Int
 | .mk k _ _ _ _ _ => k
def strOf : Vl → List UInt8
 | .mk _ _ _ s _ _ => s
def isSch (v : Vl) : Bool := decide (kindOf v = 1) || decide (kindOf v = 5)
def allM (m : List Mem) : Bool := m.all fun p => isSch p.2
def allL (l : List Vl) : Bool := l.all isSch
def isName (v : Vl) : Bool := decide (kindOf v = 3) && typeNames.contains (strOf v)
def namesL (l : List Vl) : Bool := l.all isName
def textsL (l : List Vl) : Bool := (l.all fun v => decide (kindOf v = 3)) && decide (l.map strOf).Nodup
def texts : Vl → Bool
 | .mk k _ _ _ l _ => textsL l && decide (k = 4)
def isType : Vl → Bool
 | .mk k b n s l m => (textsL l && decide (k = 4) && decide (0 < l.length) && namesL l) || isName (.mk k b n s l m)
def okOf : Nat → Vl → Bool
 | 1, v => isType v
 | 2, .mk k _ _ _ l _ => decide (k = 4) && decide (0 < l.length)
 | 3, _ => true
 | 4, v => decide (kindOf v = 2)
 | 5, .mk k _ n _ _ _ => decide (k = 2) && (n.digits.isEmpty || decide (0 ≤ n.exp)) && !n.neg
 | 6, v => decide (kindOf v = 1)
 | 7, v => texts v
 | 8, v => isSch v
 | 9, .mk k _ _ _ _ m => decide (k = 5) && allM m
 | 10, .mk k _ _ _ l _ => decide (k = 4) && decide (0 < l.length) && allL l
 | 11, v => decide (kindOf v = 3)
 | _, _ => false
def shape (nm : List UInt8) (v : Vl) : Nat := if kw nm = 0 then 10 else if okOf (kw nm) v = true then 0 else 11
def single (nm : List UInt8) : Bool := decide (kw nm = 8)
def numbered (l : List Vl) : List Mem := l.mapIdx fun i v => (Lib.decDigits i, v)
def kids (nm : List UInt8) : Vl → List Mem
 | .mk k b n s l m => if kw nm = 8 then [([], .mk k b n s l m)] else if kw nm = 9 then m else if kw nm = 10 then numbered l else []

theorem kw_none {nm : List UInt8} (h : ∀ p ∈ kws, ¬ p.1 = nm) : kw nm = 0 := by
 unfold kw
 rw [List.find?_eq_none.2 (fun p hp => by simpa using h p hp)]
 rfl
theorem kw_mem {nm : List UInt8} {q : Nat} (h : kw nm = q) (hq : ¬ q = 0) : (nm, q) ∈ kws := by
 unfold kw at h
 cases hf : kws.find? (fun p => p.1 == nm) with
 | none => rw [hf] at h; exact absurd h.symm hq
 | some p =>
  rw [hf] at h
  have h1 : p.2 = q := h
  have h2 : p.1 = nm := by simpa using List.find?_some hf
  rw [← h1, ← h2]
  exact List.mem_of_find?_eq_some hf
theorem kw_only {nm : List UInt8} {q : Nat} (Q : List (List UInt8)) (hQ : ∀ p ∈ kws, p.2 = q → p.1 ∈ Q) (hn : ¬ nm ∈ Q) (hq : ¬ q = 0) : ¬ kw nm = q := fun e => hn (hQ _ (kw_mem e hq) rfl)
theorem shape_zero {nm : List UInt8} {v : Vl} (h : shape nm v = 0) : ¬ kw nm = 0 ∧ okOf (kw nm) v = true := by
 unfold shape at h
 split at h
 ·cases h
 ·rename_i h0
  split at h
  ·rename_i h1; exact ⟨h0, h1⟩
  ·cases h
theorem shape_le (nm : List UInt8) (v : Vl) : shape nm v ≤ 14 := by
 unfold shape; split
 ·omega
 ·split <;> omega
theorem shape_eq {nm : List UInt8} {q : Nat} (v : Vl) (h : kw nm = q) (hq : ¬ q = 0) : shape nm v = if okOf q v = true then 0 else 11 := by
 unfold shape; rw [h, if_neg hq]
theorem numbered_len (l : List Vl) : (numbered l).length = l.length := by simp [numbered]
theorem numbered_get {l : List Vl} {i : Nat} {p : Mem} (h : (numbered l)[i]? = some p) : ∃ v, l[i]? = some v ∧ p = (Lib.decDigits i, v) := by
 unfold numbered at h
 rw [List.getElem?_mapIdx] at h
 obtain ⟨v, hv, rfl⟩ := Option.map_eq_some_iff.1 h
 exact ⟨v, hv, rfl⟩
theorem numbered_take (l : List Vl) (j : Nat) (h : j < l.length) : numbered (l.take (j + 1)) = numbered (l.take j) ++ [(Lib.decDigits j, l[j])] := by
 unfold numbered
 rw [List.take_succ_eq_append_getElem h, List.mapIdx_append]
 simp [List.length_take, Nat.min_eq_left (Nat.le_of_lt h)]
theorem allM_numbered (l : List Vl) : allM (numbered l) = allL l := by
 unfold allM allL
 rw [Bool.eq_iff_iff, List.all_eq_true, List.all_eq_true]
 constructor
 ·intro h v hv
  obtain ⟨i, hi⟩ := List.getElem?_of_mem hv
  have hm : (numbered l)[i]? = some (Lib.decDigits i, v) := by unfold numbered; rw [List.getElem?_mapIdx, hi]; rfl
  exact h _ (List.mem_of_getElem? hm)
 ·intro h p hp
  obtain ⟨i, hi⟩ := List.getElem?_of_mem hp
  obtain ⟨v, hv, rfl⟩ := numbered_get hi
  exact h _ (List.mem_of_getElem? hv)
theorem kids_mk (nm : List UInt8) (k : Int) (b : Bool) (n : Nm.Num) (s : List UInt8) (l : List Vl) (m : List Mem) : kids nm (.mk k b n s l m) = if kw nm = 8 then [([], .mk k b n s l m)] else if kw nm = 9 then m else if kw nm = 10 then numbered l else [] := rfl
theorem textsL_kind {l : List Vl} {j : Nat} (hj : j < l.length) (h : ¬ kindOf l[j] = 3) : textsL l = false := by
 unfold textsL
 rw [Bool.and_eq_false_iff]
 refine .inl ?_
 rw [Bool.eq_false_iff]
 intro hh
 exact h (by simpa using List.all_eq_true.1 hh _ (List.getElem_mem hj))
theorem textsL_dup {l : List Vl} {p j : Nat} (hp : p < j) (hj : j < l.length) (h : strOf (l[p]'(by omega)) = strOf l[j]) : textsL l = false := by
 unfold textsL
 rw [Bool.and_eq_false_iff]
 refine .inr ?_
 rw [decide_eq_false_iff_not]
 intro hn
 have := List.pairwise_iff_getElem.1 hn p j (by simpa using (by omega : p < l.length)) (by simpa using hj) hp
 simp only [List.getElem_map] at this
 exact this h
theorem textsL_next {l : List Vl} {j : Nat} (hj : j < l.length) (h : textsL (l.take j) = true) (hk : kindOf l[j] = 3) (hn : ∀ p (hp : p < j), ¬ strOf (l[p]'(by omega)) = strOf l[j]) : textsL (l.take (j + 1)) = true := by
 unfold textsL at h ⊢
 rw [Bool.and_eq_true, decide_eq_true_eq] at h ⊢
 rw [List.take_succ_eq_append_getElem hj]
 refine ⟨?_, ?_⟩
 ·rw [List.all_append, Bool.and_eq_true]
  exact ⟨h.1, by simp [hk]⟩
 ·rw [List.map_append, List.nodup_append]
  refine ⟨h.2, by simp, ?_⟩
  intro a ha b hb
  simp only [List.map_cons, List.map_nil, List.mem_singleton] at hb
  subst hb
  obtain ⟨i, hi, rfl⟩ := List.getElem_of_mem ha
  simp only [List.length_map, List.length_take] at hi
  simp only [List.getElem_map, List.getElem_take]
  exact hn i (by omega)
theorem textsL_nil : textsL [] = true := by decide
theorem allM_next {m : List Mem} {j : Nat} (hj : j < m.length) (h : allM (m.take j) = true) (hs : isSch (m[j]).2 = true) : allM (m.take (j + 1)) = true := by
 unfold allM at h ⊢
 rw [List.take_succ_eq_append_getElem hj, List.all_append, h]
 simp [hs]
theorem allM_not {m : List Mem} {j : Nat} (hj : j < m.length) (hs : isSch (m[j]).2 = false) : allM m = false := by
 unfold allM
 rw [Bool.eq_false_iff]
 intro hh
 have := List.all_eq_true.1 hh _ (List.getElem_mem hj)
 rw [hs] at this; cases this
theorem namesL_next {l : List Vl} {j : Nat} (hj : j < l.length) : namesL (l.take (j + 1)) = (namesL (l.take j) && isName l[j]) := by
 unfold namesL
 rw [List.take_succ_eq_append_getElem hj, List.all_append]
 simp
theorem isName_yes {k : Int} {b : Bool} {n : Nm.Num} {s : List UInt8} {l : List Vl} {m : List Mem} {j : Nat} (hj : j < typeNames.length) (hk : k = 3) (h : s = typeNames[j]) : isName (.mk k b n s l m) = true := by
 unfold isName
 rw [Bool.and_eq_true]
 refine ⟨by simp [kindOf, hk], ?_⟩
 rw [List.contains_iff_mem, show strOf (.mk k b n s l m) = s from rfl, h]
 exact List.getElem_mem hj
theorem isName_no {k : Int} {b : Bool} {n : Nm.Num} {s : List UInt8} {l : List Vl} {m : List Mem} (h : ∀ j (hj : j < typeNames.length), ¬ (k = 3 ∧ s = typeNames[j])) : isName (.mk k b n s l m) = false := by
 unfold isName
 rw [Bool.eq_false_iff]
 intro hh
 rw [Bool.and_eq_true, List.contains_iff_mem] at hh
 obtain ⟨h1, h2⟩ := hh
 obtain ⟨j, hj, he⟩ := List.getElem_of_mem h2
 exact h j hj ⟨of_decide_eq_true h1, he.symm⟩

end Go.Proofs.YtolkfgikomminaaGreatDoor.Sh

