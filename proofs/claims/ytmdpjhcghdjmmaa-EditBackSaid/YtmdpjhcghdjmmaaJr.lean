/- Layer 7 (edit): how great what comes of an edit is. -/
import Derived.Test.YtmdpjhcghdjmmaaJa
namespace Go.Proofs.Ytmdpjhcghdjmmaa.Ed
open Js Pt
open Ps (less)

theorem sizeL_append (a b : List Vl) : sizeL (a ++ b) = sizeL a + sizeL b := by
  induction a with
  | nil => simp [sizeL]
  | cons v a ih => simp only [List.cons_append, sizeL, ih]; omega
theorem sizeM_append (a b : List Mem) : sizeM (a ++ b) = sizeM a + sizeM b := by
  induction a with
  | nil => simp [sizeM]
  | cons v a ih => simp only [List.cons_append, sizeM, ih]; omega
theorem sizeL_set (l : List Vl) (i : Nat) (z : Vl) (h : i < l.length) : sizeL (l.set i z) + l[i].size = sizeL l + z.size := by
  induction l generalizing i with
  | nil => simp at h
  | cons v l ih =>
    cases i with
    | zero => simp only [List.set_cons_zero, sizeL, List.getElem_cons_zero]; omega
    | succ i =>
      have := ih i (by simpa using h)
      simp only [List.set_cons_succ, sizeL, List.getElem_cons_succ]; omega
theorem sizeL_set_le (l : List Vl) (i : Nat) (z : Vl) : sizeL (l.set i z) ≤ sizeL l + z.size := by
  by_cases h : i < l.length
  · have := sizeL_set l i z h; omega
  · rw [List.set_eq_of_length_le (by omega)]; omega
theorem sizeL_erase (l : List Vl) (i : Nat) : sizeL (l.eraseIdx i) ≤ sizeL l := by
  induction l generalizing i with
  | nil => simp
  | cons v l ih =>
    cases i with
    | zero => simp only [List.eraseIdx_cons_zero, sizeL]; omega
    | succ i => have := ih i; simp only [List.eraseIdx_cons_succ, sizeL]; omega
theorem sizeM_filter (m : List Mem) (q : Mem → Bool) : sizeM (m.filter q) ≤ sizeM m := by
  induction m with
  | nil => simp
  | cons p m ih =>
    rw [List.filter_cons]
    split
    · simp only [sizeM]; omega
    · simp only [sizeM]; omega
theorem sizeM_put (m : List Mem) (nm : List UInt8) (x : Vl) : sizeM (put m nm x) ≤ sizeM m + x.size := by
  have h1 : sizeM m = sizeM (m.takeWhile (less nm)) + sizeM (m.dropWhile (less nm)) := by rw [← sizeM_append, List.takeWhile_append_dropWhile]
  unfold put
  rw [sizeM_append]
  have h2 : sizeM ((nm, x) :: (m.dropWhile (less nm)).filter fun p => decide (p.1 ≠ nm)) ≤ x.size + sizeM (m.dropWhile (less nm)) := by
    simp only [sizeM, sizeP]
    exact Nat.add_le_add_left (sizeM_filter _ _) _
  exact Nat.le_trans (Nat.add_le_add_left h2 _) (by omega)
theorem size_inL (op : Nat) (l : List Vl) (i : Nat) (x : Vl) : sizeL (inL op l i x) ≤ sizeL l + x.size := by
  unfold inL
  split
  · have h1 : sizeL l = sizeL (l.take i) + sizeL (l.drop i) := by rw [← sizeL_append, List.take_append_drop]
    rw [sizeL_append]; simp only [sizeL]; omega
  · split
    · have := sizeL_erase l i; omega
    · exact sizeL_set_le l i x
theorem size_one {op : Nat} {nm : List UInt8} {v x u : Vl} (h : one op nm v x = .ok u) : u.size ≤ v.size + x.size := by
  obtain ⟨k, b, n, s, l, m⟩ := v
  rw [one_mk] at h
  split at h
  · split at h
    · injection h with h; subst h
      have := size_inL op l (index nm l.length (decide (op = 1))).1 x
      simp only [Vl.size, sizeM]; omega
    · cases h
  · split at h
    · split at h
      · injection h with h; subst h
        have h2 : sizeM (if op = 2 then del m nm else put m nm x) ≤ sizeM m + x.size := by
          split
          · exact Nat.le_trans (sizeM_filter _ _) (Nat.le_add_right _ _)
          · exact sizeM_put m nm x
        simp only [Vl.size, sizeL]; omega
      · cases h
    · cases h
theorem size_setKid {v y z : Vl} {nm : List UInt8} (hv : neat v = true) (h : kid v nm = some y) : (setKid v nm z).size + y.size ≤ v.size + z.size := by
  obtain ⟨k, b, n, s, l, m⟩ := v
  obtain ⟨_, _, _, _, hr⟩ := (neat_iff _ _ _ _ _ _).1 hv
  rw [kid_mk, find_five] at h
  rw [setKid_mk]
  split at h
  · rename_i hk
    rw [if_pos hk]
    split at h
    · obtain ⟨hi, rfl⟩ := List.getElem?_eq_some_iff.1 h
      have := sizeL_set l _ z hi
      simp only [Vl.size, sizeM]; omega
    · cases h
  · rename_i hk
    rw [if_neg hk]
    split at h
    · obtain ⟨a, c, rfl, ha, hc⟩ := part hr h
      rw [upd_part z ha hc]
      simp only [Vl.size, sizeM_append, sizeM, sizeP, sizeL]; omega
    · cases h
theorem size_edit {op : Nat} (ns : List (List UInt8)) {x : Vl} : ∀ {v u : Vl}, neat v = true → edit op ns v x = .ok u → u.size ≤ v.size + x.size := by
  induction ns with
  | nil =>
    intro v u _ h
    unfold edit at h
    split at h
    · cases h
    · injection h with h; subst h; omega
  | cons nm ns ih =>
    intro v u hv h
    cases ns with
    | nil => exact size_one h
    | cons a r =>
      rw [edit_more op nm (by simp), under_kid] at h
      cases hk : kid v nm with
      | none => rw [hk] at h; cases h
      | some y =>
        rw [hk] at h
        simp only at h
        cases he : edit op (a :: r) y x with
        | bad c => rw [he] at h; cases h
        | ok z =>
          rw [he] at h
          injection h with h; subst h
          have h1 := ih (kid_neat hv hk) he
          have h2 := size_setKid (z := z) hv hk
          omega

end Go.Proofs.Ytmdpjhcghdjmmaa.Ed

