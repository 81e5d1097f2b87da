/- Plain mathematics of layer 5 (show): a value's canonical text; it is read as it was; how long it is. -/
import Derived.Test.YtjjenpmahmbafaaGreatDoorNc
namespace Go.Proofs.YtjjenpmahmbafaaGreatDoor.Js

mutual
def Vl.shown : Vl → List UInt8
  | .mk k b n s l m => if k = 0 then [110, 117, 108, 108] else if k = 1 then (if b then [116, 114, 117, 101] else [102, 97, 108, 115, 101]) else if k = 2 then Nm.text n else if k = 3 then St.quote s
    else if k = 4 then 91 :: ((shownL l).tail ++ [93]) else 123 :: ((shownM m).tail ++ [125])
def shownL : List Vl → List UInt8
  | [] => []
  | v :: l => 44 :: (v.shown ++ shownL l)
def shownM : List Mem → List UInt8
  | [] => []
  | p :: m => 44 :: (shownP p ++ shownM m)
def shownP : Mem → List UInt8
  | (k, v) => St.quote k ++ 58 :: v.shown
end

theorem shownL_append (a b : List Vl) : shownL (a ++ b) = shownL a ++ shownL b := by
  induction a with
  | nil => rfl
  | cons v a ih => simp only [List.cons_append, shownL, ih, List.append_assoc]
theorem shownM_append (a b : List Mem) : shownM (a ++ b) = shownM a ++ shownM b := by
  induction a with
  | nil => rfl
  | cons v a ih => simp only [List.cons_append, shownM, ih, List.append_assoc]
theorem shownL_take (l : List Vl) (k : Nat) (h : k < l.length) : shownL (l.take (k + 1)) = shownL (l.take k) ++ 44 :: l[k].shown := by
  rw [List.take_succ_eq_append_getElem h, shownL_append]; simp [shownL]
theorem shownM_take (m : List Mem) (k : Nat) (h : k < m.length) : shownM (m.take (k + 1)) = shownM (m.take k) ++ 44 :: (St.quote m[k].1 ++ 58 :: m[k].2.shown) := by
  rw [List.take_succ_eq_append_getElem h, shownM_append]
  generalize m[k] = p
  obtain ⟨a, b⟩ := p
  simp [shownM, shownP]

end Go.Proofs.YtjjenpmahmbafaaGreatDoor.Js
namespace Go.Proofs.YtjjenpmahmbafaaGreatDoor.Ps
open Js
theorem dec_short (m : Nat) (h : m ≤ 1000) : (Lib.decDigits m).length ≤ 4 := by
  rw [Lib.decDigits_eq, List.length_map, List.length_range]
  have := Nm.dec_len_mono 1000 m h
  have e : Lib.nDigits 1000 = 4 := Lib.nDigits_unique 3 1000 (by decide) (by decide)
  omega
theorem itoa_short (x : Int) (h1 : -1000 ≤ x) (h2 : x ≤ 1000) : (Lib.itoa x).length ≤ 5 := by
  unfold Lib.itoa
  split
  · have := dec_short x.natAbs (by omega)
    simp only [List.length_cons]; omega
  · have := dec_short x.toNat (by omega)
    omega
theorem qc_le (c : UInt8) : (St.qc c).length ≤ 6 := by
  unfold St.qc
  repeat' split
  all_goals simp
theorem encode_qb (r : Nat) (h : St.scalar r) : (St.qb (Lib.encodeRune (r : Int))).length ≤ 6 := by
  by_cases hr : r < 128
  · have hl := St.encode_len r
    have h2 := (St.utf8_encode r h []).1
    rw [List.append_nil] at h2
    have h1 : (Lib.encodeRune (r : Int)).length = 1 := by
      by_cases h0 : (Lib.encodeRune (r : Int)).length = 0
      · rw [List.length_eq_zero_iff] at h0
        have := (St.utf8_encode r h [0]).1
        rw [h0] at this
        exact absurd this (by decide)
      · have h3 := St.utf8_cases (Lib.encodeRune (r : Int)) (by omega)
        have h4 := (St.utf8_encode r h []).2
        rw [List.append_nil] at h4
        omega
    generalize Lib.encodeRune (r : Int) = e at h1
    match e, h1 with
    | [c], _ => simpa [St.qb] using qc_le c
  · have h4 := St.utf8_encode r h []
    rw [List.append_nil] at h4
    have hl := St.encode_len r
    have hne : (Lib.encodeRune (r : Int)).length ≠ 0 := fun h0 => by
      rw [List.length_eq_zero_iff] at h0
      have := (St.utf8_encode r h [0]).1
      rw [h0] at this
      exact absurd this (by decide)
    have hc := St.utf8_cases (Lib.encodeRune (r : Int)) (by omega)
    have hh := St.take_high (Lib.encodeRune (r : Int)) (by omega) (by omega)
    rw [h4.1, List.take_length] at hh
    rw [St.qb_high _ hh]
    omega
theorem run_qb : ∀ (f : Nat) (l out : List UInt8) (i : Nat) {o : List UInt8} {p : Nat}, St.run f l out i = .ok o p → (St.qb o).length + 6 * i + 6 ≤ (St.qb out).length + 6 * p
  | 0, l, out, i, o, p, h => by cases h
  | f + 1, [], out, i, o, p, h => by cases h
  | f + 1, c :: l, out, i, o, p, h => by
    by_cases hc : c = 34
    · subst hc
      rw [St.run_stop] at h
      injection h with h1 h2
      subst h1 h2; omega
    · cases hk : St.chr (c :: l) with
      | bad k e => rw [St.run_bad f out i hc hk] at h; cases h
      | ok r n =>
        obtain ⟨k1, k2, k3, k4⟩ := St.chr_ok hk
        rw [St.run_more f out i hc hk] at h
        have ih := run_qb f _ _ _ h
        have := encode_qb r k3
        rw [St.qb_append, List.length_append] at ih
        omega
theorem qtext_room {t o u : List UInt8} (h : qtext t = .ok o u) : (St.quote o).length + 6 * u.length ≤ 6 * t.length := by
  cases t with
  | nil => cases h
  | cons c v =>
    by_cases hc : c = 34
    · subst hc
      simp only [qtext, if_pos] at h
      cases hr : St.run (v.length + 1) v [] 1 with
      | bad k p => rw [hr] at h; cases h
      | ok o' p =>
        rw [hr] at h
        injection h with h1 h2
        subst h1 h2
        have h3 := run_qb _ _ _ _ hr
        have h4 := St.run_past _ _ _ _ hr
        rw [St.quote_length, List.length_drop]
        simp only [St.qb, List.flatMap_nil, List.length_nil, List.length_cons] at h3 ⊢
        omega
    · simp only [qtext, if_neg hc] at h; cases h
theorem core_le (d : List UInt8) : (Nm.core d).length ≤ d.length := by
  obtain ⟨a, h1⟩ := Nm.left_eq d
  obtain ⟨b, h2⟩ := Nm.right_eq (Lib.trimLeftB d 48)
  have h3 := congrArg List.length h1
  have h4 := congrArg List.length h2
  rw [List.length_append] at h3 h4
  unfold Nm.core
  omega
theorem parse_digits {l : List UInt8} : (Nm.parse l).1.digits.length ≤ l.length := by
  have hs := Nm.split_sound l
  unfold Nm.parse Nm.parseOf
  split
  · simp only
    split
    · rw [Nm.normal_core]
      split
      · simp [Nm.Num.zero]
      · split
        · simp [Nm.Num.zero]
        · have := core_le ((Nm.split l).1.whole ++ (Nm.split l).1.frac)
          have h2 := hs.2.2
          rw [List.length_append] at this
          simp only
          omega
    · simp [Nm.Num.zero]
  · simp [Nm.Num.zero]
theorem text_room {n : Nm.Num} (h : mayNum n = true) : (Nm.text n).length ≤ n.digits.length + 9 := by
  rcases mayNum_May h with rfl | ⟨_, _, _, _, _, h5, h6⟩
  · decide
  · have hi := Lib.itoa_length_le n.exp (by omega) (by omega)
    unfold Nm.text
    split
    · simp
    · simp only [List.length_append]
      have h1 : (if n.neg = true then [45] else ([] : List UInt8)).length ≤ 1 := by split <;> simp
      have h2 : (if n.exp = 0 then [] else (101 : UInt8) :: Lib.itoa n.exp).length ≤ 7 := by
        split
        · simp
        · have := itoa_short n.exp h5 h6
          simp only [List.length_cons]; omega
      omega
theorem number_room {t : List UInt8} {n : Nm.Num} {u : List UInt8} (h : number t = .ok n u) : (Nm.text n).length + 10 * u.length ≤ 10 * t.length := by
  obtain ⟨h1, h2, h3, h4, h5, h6⟩ := number_ok h
  have h7 := parse_digits (l := t.take (t.length - u.length))
  rw [h6, List.length_take] at h7
  have h8 := text_room h1
  simp only at h7
  omega
def Room (n : Nat) (r : R Vl) : Prop := ∀ v u, r = .ok v u → v.shown.length + 10 * u.length ≤ n
theorem Room.bad (n k l : Nat) : Room n (.bad k l) := fun _ _ e => by cases e
theorem Room.ok {n : Nat} {v : Vl} {u : List UInt8} (h : v.shown.length + 10 * u.length ≤ n) : Room n (.ok v u) := fun _ _ e => by cases e; exact h
theorem Room.mono {n n' : Nat} {r : R Vl} (h : Room n r) (hn : n ≤ n') : Room n' r := fun v u e => Nat.le_trans (h v u e) hn
theorem Room.trail {n : Nat} {r : R Vl} (h : Room n r) : Room n r.trail := by
  cases r with
  | ok v t => have := h _ _ rfl; have hs := skip_len t; exact .ok (by omega)
  | bad c l => exact .bad _ _ _
theorem single_room (c : UInt8) (u : List UInt8) : Room (10 * (c :: u).length) (single c u) := by
  intro v t h
  have go : ∀ {α : Type} {g : α → Vl} {r : R α}, r.map g = .ok v t → ∃ a, r = .ok a t ∧ v = g a := by
    intro α g r e
    cases r with
    | bad k l => cases e
    | ok a t' => injection e with e1 e2; subst e1 e2; exact ⟨a, rfl, rfl⟩
  unfold single at h
  split at h
  · obtain ⟨o, e, rfl⟩ := go h
    have := qtext_room e
    show (St.quote o).length + _ ≤ _
    omega
  split at h
  · obtain ⟨o, e, rfl⟩ := go h
    have := congrArg List.length (lit_ok e)
    simp only [List.length_append, List.length_cons, List.length_nil] at this ⊢
    show 4 + _ ≤ _
    omega
  split at h
  · obtain ⟨o, e, rfl⟩ := go h
    have := congrArg List.length (lit_ok e)
    simp only [List.length_append, List.length_cons, List.length_nil] at this ⊢
    show 4 + _ ≤ _
    omega
  split at h
  · obtain ⟨o, e, rfl⟩ := go h
    have := congrArg List.length (lit_ok e)
    simp only [List.length_append, List.length_cons, List.length_nil] at this ⊢
    show 5 + _ ≤ _
    omega
  split at h
  · obtain ⟨o, e, rfl⟩ := go h
    exact number_room e
  · cases h

theorem shownA_len (l : List Vl) : (mkA l).shown.length ≤ (shownL l).length + 2 := by
  show (91 :: ((shownL l).tail ++ [93])).length ≤ _
  simp only [List.length_cons, List.length_append, List.length_tail, List.length_nil]; omega
theorem shownO_len (m : List Mem) : (mkO m).shown.length ≤ (shownM m).length + 2 := by
  show (123 :: ((shownM m).tail ++ [125])).length ≤ _
  simp only [List.length_cons, List.length_append, List.length_tail, List.length_nil]; omega
theorem shownM_ins (m : List Mem) (key : List UInt8) (v : Vl) : (shownM (ins m key v)).length = (shownM m).length + (St.quote key).length + v.shown.length + 2 := by
  have hm : m.takeWhile (less key) ++ m.dropWhile (less key) = m := List.takeWhile_append_dropWhile
  have : (shownM m).length = (shownM (m.takeWhile (less key))).length + (shownM (m.dropWhile (less key))).length := by rw [← List.length_append, ← shownM_append, hm]
  unfold ins
  rw [shownM_append, this]
  simp only [shownM, shownP, List.length_append, List.length_cons]; omega
theorem room_all (f : Nat) : (∀ d t, Room (10 * t.length) (value f d t)) ∧ (∀ d u, Room (10 * u.length + 10) (arr f d u)) ∧ (∀ d t acc, Room (10 * t.length + (shownL acc).length + 2) (elems f d t acc)) ∧
    (∀ d u, Room (10 * u.length + 10) (obj f d u)) ∧ (∀ d t acc, Room (10 * t.length + (shownM acc).length + 2) (mems f d t acc)) := by
  induction f with
  | zero => exact ⟨fun _ _ => by unfold value; exact .bad _ _ _, fun _ _ => by unfold arr; exact .bad _ _ _, fun _ _ _ => by unfold elems; exact .bad _ _ _, fun _ _ => by unfold obj; exact .bad _ _ _, fun _ _ _ => by unfold mems; exact .bad _ _ _⟩
  | succ f ih =>
    obtain ⟨iv, ia, ie, io, im⟩ := ih
    refine ⟨fun d t => ?_, fun d u => ?_, fun d t acc => ?_, fun d u => ?_, fun d t acc => ?_⟩
    · unfold value
      have hs := skip_len t
      apply Room.trail
      cases h : skip t with
      | nil => exact .bad _ _ _
      | cons c u =>
        rw [h] at hs
        simp only [List.length_cons] at hs
        simp only
        split
        · exact (io d u).mono (by omega)
        split
        · exact (ia d u).mono (by omega)
        · exact (single_room c u).mono (by simp only [List.length_cons]; omega)
    · unfold arr
      have hs := skip_len u
      split
      · exact .bad _ _ _
      split
      · refine .ok ?_
        show 2 + _ ≤ _
        rw [List.length_tail]; omega
      · exact (ie (d + 1) (skip u) []).mono (by simp only [shownL, List.length_nil]; omega)
    · unfold elems
      have hv := iv d t
      cases h : value f d t with
      | bad c l => exact .bad _ _ _
      | ok v u =>
        have h1 := hv _ _ h
        cases u with
        | nil => exact .bad _ _ _
        | cons c u =>
          simp only [List.length_cons] at h1
          have e : (shownL (acc ++ [v])).length = (shownL acc).length + 1 + v.shown.length := by rw [shownL_append]; simp [shownL]; omega
          simp only
          split
          · exact (ie d u (acc ++ [v])).mono (by omega)
          split
          · have := shownA_len (acc ++ [v])
            exact .ok (by omega)
          · exact .bad _ _ _
    · unfold obj
      have hs := skip_len u
      split
      · exact .bad _ _ _
      split
      · refine .ok ?_
        show 2 + _ ≤ _
        rw [List.length_tail]; omega
      · exact (im (d + 1) (skip u) []).mono (by simp only [shownM, List.length_nil]; omega)
    · unfold mems
      have hs := skip_len t
      cases hq : qtext (skip t) with
      | bad c l => exact .bad _ _ _
      | ok key t2 =>
        have hq2 := qtext_room hq
        have hq3 := (qtext_ok hq).1
        have hs2 := skip_len t2
        simp only
        split
        · exact .bad _ _ _
        cases h3 : skip t2 with
        | nil => exact .bad _ _ _
        | cons c t4 =>
          rw [h3] at hs2
          simp only [List.length_cons] at hs2
          simp only
          split
          · have hv := iv d t4
            cases h : value f d t4 with
            | bad c l => exact .bad _ _ _
            | ok v u =>
              have h1 := hv _ _ h
              cases u with
              | nil => exact .bad _ _ _
              | cons c u =>
                simp only [List.length_cons] at h1
                have e := shownM_ins acc key v
                simp only
                split
                · exact (im d u _).mono (by omega)
                split
                · have := shownO_len (ins acc key v)
                  exact .ok (by omega)
                · exact .bad _ _ _
          · exact .bad _ _ _

theorem parse_room {s : List UInt8} {v : Vl} {u : List UInt8} (h : parse s = .ok v u) : v.shown.length ≤ 10 * s.length := by
  have h1 := (parse_value h (3 * s.length + 1) (Nat.le_refl _)).1
  have := (room_all (3 * s.length + 1)).1 0 s _ _ h1
  simpa using this

end Go.Proofs.YtjjenpmahmbafaaGreatDoor.Ps

