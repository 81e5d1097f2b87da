/- Plain mathematics of layer 1 (num), sixth part: what the law NumBack leans on, shown. -/
import Derived.Test.YtbcoakonjgakbaaDoorPuree
namespace Go.Proofs.YtbcoakonjgakbaaDoor.Nm

/-! ### Digits without 0s at both ends -/

theorem head_drop (p : UInt8 → Bool) : ∀ (l : List UInt8) (c : UInt8), (l.dropWhile p).head? = some c → p c = false
  | [], c, h => by simp at h
  | x :: r, c, h => by
    rw [List.dropWhile_cons] at h
    split at h
    · exact head_drop p r c h
    · rename_i hx
      simp at h; subst h; exact Bool.eq_false_iff.2 hx

theorem take_rep (c : UInt8) : ∀ l : List UInt8, l.takeWhile (· == c) = List.replicate (l.takeWhile (· == c)).length c
  | [] => rfl
  | x :: r => by
    rw [List.takeWhile_cons]
    split
    · rename_i h
      have e : x = c := by simpa using h
      rw [List.length_cons, List.replicate_succ, ← take_rep c r, e]
    · rfl

/-- The digits of d without 0s at both ends. -/
def core (d : List UInt8) : List UInt8 := Lib.trimRightB (Lib.trimLeftB d 48) 48

theorem left_eq (l : List UInt8) : ∃ a, l = List.replicate a 48 ++ Lib.trimLeftB l 48 :=
  ⟨(l.takeWhile (· == 48)).length, by rw [← take_rep]; exact (List.takeWhile_append_dropWhile).symm⟩
theorem right_eq (l : List UInt8) : ∃ b, l = Lib.trimRightB l 48 ++ List.replicate b 48 :=
  ⟨(l.reverse.takeWhile (· == 48)).length, by
    unfold Lib.trimRightB
    have h : l.reverse = List.replicate (l.reverse.takeWhile (· == 48)).length 48 ++ l.reverse.dropWhile (· == 48) := by
      rw [← take_rep]; exact (List.takeWhile_append_dropWhile).symm
    have h2 := congrArg List.reverse h
    rw [List.reverse_reverse, List.reverse_append, List.reverse_replicate] at h2
    exact h2⟩
theorem left_head (l : List UInt8) : (Lib.trimLeftB l 48).head? ≠ some 48 := fun h => by
  have := head_drop (· == 48) l 48 h
  simp at this
theorem right_last (l : List UInt8) : (Lib.trimRightB l 48).getLast? ≠ some 48 := fun h => by
  unfold Lib.trimRightB at h
  rw [List.getLast?_reverse] at h
  have := head_drop (· == 48) _ 48 h
  simp at this
theorem core_head (d : List UInt8) : (core d).head? ≠ some 48 := fun h => by
  obtain ⟨b, hb⟩ := right_eq (Lib.trimLeftB d 48)
  have h1 := left_head d
  rw [hb] at h1
  unfold core at h
  apply h1
  cases hc : Lib.trimRightB (Lib.trimLeftB d 48) 48 with
  | nil => rw [hc] at h; simp at h
  | cons x r => rw [hc] at h; simpa using h
theorem core_last (d : List UInt8) : (core d).getLast? ≠ some 48 := right_last _
theorem core_mem (d : List UInt8) : ∀ c ∈ core d, c ∈ d := fun c hc => by
  obtain ⟨b, hb⟩ := right_eq (Lib.trimLeftB d 48)
  obtain ⟨a, ha⟩ := left_eq d
  rw [ha, hb]
  exact List.mem_append_right _ (List.mem_append_left _ hc)

theorem dropWhile_id (p : UInt8 → Bool) (l : List UInt8) (h : ∀ c, l.head? = some c → p c = false) : l.dropWhile p = l := by
  cases l with
  | nil => rfl
  | cons x r => rw [List.dropWhile_cons]; simp [h x rfl]
theorem left_id (l : List UInt8) (h : l.head? ≠ some 48) : Lib.trimLeftB l 48 = l :=
  dropWhile_id _ l (fun c hc => by
    simp only [beq_eq_false_iff_ne, ne_eq]
    intro e; subst e; exact h hc)
theorem right_id (l : List UInt8) (h : l.getLast? ≠ some 48) : Lib.trimRightB l 48 = l := by
  unfold Lib.trimRightB
  rw [dropWhile_id _ _ (fun c hc => by
    simp only [beq_eq_false_iff_ne, ne_eq]
    intro e; subst e
    rw [List.head?_reverse] at hc
    exact h hc), List.reverse_reverse]

/-! ### What Parse tells may be -/

theorem err_range (l : List UInt8) : 0 ≤ (parse l).2 ∧ (parse l).2 ≤ 14 := by
  unfold parse parseOf
  split
  · simp only
    split <;> exact ⟨by simp only; omega, by simp only; omega⟩
  · decide

theorem tail_dig (neg : Bool) (w f s : List UInt8) (h : ∀ c ∈ w ++ f, dig c = true) : ∀ c ∈ (tail neg w f s).1.whole ++ (tail neg w f s).1.frac, dig c = true := by
  unfold tail
  split
  · exact h
  · split
    · exact h
    · intro c hc; simp [Parts.zero] at hc
theorem split_dig (l : List UInt8) : ∀ c ∈ (split l).1.whole ++ (split l).1.frac, dig c = true := by
  unfold split
  simp only
  split
  · intro c hc; simp [Parts.zero] at hc
  · unfold afterWhole
    split
    · split
      · intro c hc; simp [Parts.zero] at hc
      · exact tail_dig _ _ _ _ (fun c hc => by
          rcases List.mem_append.1 hc with h | h
          · exact pre_dig _ c h
          · exact pre_dig _ c h)
    · exact tail_dig _ _ _ _ (fun c hc => by simp at hc; exact pre_dig _ c hc)

theorem normal_core (neg : Bool) (d : List UInt8) (x : Int) : normal neg d x = if (core d).isEmpty then (Num.zero, true) else if 60 < (core d).length ∨ x + (((Lib.trimLeftB d 48).length : Int) - (core d).length) < -1000 ∨ 1000 < x + (((Lib.trimLeftB d 48).length : Int) - (core d).length) then (Num.zero, false) else (⟨neg, core d, x + (((Lib.trimLeftB d 48).length : Int) - (core d).length)⟩, true) := rfl

theorem normal_may (neg : Bool) (d : List UInt8) (x : Int) (h : ∀ c ∈ d, dig c = true) : May (normal neg d x).1 := by
  rw [normal_core]
  split
  · exact .inl rfl
  · rename_i he
    split
    · exact .inl rfl
    · rename_i hb
      refine .inr ⟨?_, fun c hc => h c (core_mem d c hc), core_head d, core_last d, ?_, ?_, ?_⟩
      · intro e; simp only at e; rw [e] at he; simp at he
      · simp only; omega
      · simp only; omega
      · simp only; omega

theorem parse_may (l : List UInt8) : May (parse l).1 := by
  unfold parse parseOf
  split
  · simp only
    split
    · exact normal_may _ _ _ (split_dig l)
    · exact .inl rfl
  · exact .inl rfl

/-! ### The order -/

theorem int_range (x y : Int) : -1 ≤ Lib.compareInt x y ∧ Lib.compareInt x y ≤ 1 := by
  unfold Lib.compareInt; split
  · decide
  · split <;> decide
theorem int_flip (x y : Int) : Lib.compareInt x y = - Lib.compareInt y x := by
  unfold Lib.compareInt
  by_cases h1 : x < y
  · rw [if_pos h1, if_neg (by omega), if_pos h1]
  · rw [if_neg h1]
    by_cases h2 : x > y
    · rw [if_pos h2, if_pos h2]; rfl
    · rw [if_neg h2, if_neg (by omega), if_neg (by omega)]; rfl
theorem int_zero (x y : Int) : Lib.compareInt x y = 0 ↔ x = y := by
  unfold Lib.compareInt; split
  · constructor <;> intro h <;> omega
  · split <;> constructor <;> intro h <;> omega
theorem int_le (x y : Int) : Lib.compareInt x y ≤ 0 ↔ x ≤ y := by
  unfold Lib.compareInt; split
  · constructor <;> intro h <;> omega
  · split <;> constructor <;> intro h <;> omega

theorem bytes_range : ∀ a b : List UInt8, -1 ≤ Lib.compareBytes a b ∧ Lib.compareBytes a b ≤ 1
  | [], [] => by decide
  | [], _ :: _ => by simp [Lib.compareBytes]
  | _ :: _, [] => by simp [Lib.compareBytes]
  | x :: a, y :: b => by
    unfold Lib.compareBytes
    split
    · decide
    · split
      · decide
      · exact bytes_range a b
theorem bytes_flip : ∀ a b : List UInt8, Lib.compareBytes a b = - Lib.compareBytes b a
  | [], [] => rfl
  | [], _ :: _ => by simp [Lib.compareBytes]
  | _ :: _, [] => by simp [Lib.compareBytes]
  | x :: a, y :: b => by
    have ih := bytes_flip a b
    simp only [Lib.compareBytes]
    by_cases h1 : x < y
    · have h2 : ¬ y < x := by simp only [UInt8.lt_iff_toNat_lt] at *; omega
      rw [if_pos h1, if_neg h2, if_pos h1]
    · rw [if_neg h1]
      by_cases h2 : y < x
      · rw [if_pos h2, if_pos h2]; rfl
      · rw [if_neg h2, if_neg h2, if_neg h1]; exact ih
theorem bytes_self : ∀ a : List UInt8, Lib.compareBytes a a = 0
  | [] => rfl
  | x :: a => by
    simp only [Lib.compareBytes]
    rw [if_neg (by simp only [UInt8.lt_iff_toNat_lt]; omega), if_neg (by simp only [UInt8.lt_iff_toNat_lt]; omega)]
    exact bytes_self a
theorem bytes_zero : ∀ a b : List UInt8, Lib.compareBytes a b = 0 → a = b
  | [], [], _ => rfl
  | [], _ :: _, h => by simp [Lib.compareBytes] at h
  | _ :: _, [], h => by simp [Lib.compareBytes] at h
  | x :: a, y :: b, h => by
    simp only [Lib.compareBytes] at h
    by_cases h1 : x < y
    · rw [if_pos h1] at h; cases h
    · rw [if_neg h1] at h
      by_cases h2 : y < x
      · rw [if_pos h2] at h; cases h
      · rw [if_neg h2] at h
        have e : x = y := UInt8.toNat_inj.1 (by simp only [UInt8.lt_iff_toNat_lt] at h1 h2; omega)
        rw [e, bytes_zero a b h]
theorem bytes_next : ∀ a b c : List UInt8, Lib.compareBytes a b ≤ 0 → Lib.compareBytes b c ≤ 0 → Lib.compareBytes a c ≤ 0
  | [], [], c, _, h => h
  | [], _ :: _, [], _, _ => by decide
  | [], _ :: _, _ :: _, _, _ => by simp [Lib.compareBytes]
  | _ :: _, [], _, h, _ => by simp [Lib.compareBytes] at h
  | _ :: _, _ :: _, [], _, h => by simp [Lib.compareBytes] at h
  | x :: a, y :: b, z :: c, h1, h2 => by
    have ih := bytes_next a b c
    simp only [Lib.compareBytes, UInt8.lt_iff_toNat_lt] at *
    by_cases e1 : x.toNat < y.toNat
    · by_cases e2 : y.toNat < z.toNat
      · rw [if_pos (by omega)]; decide
      · rw [if_neg e2] at h2
        by_cases e3 : z.toNat < y.toNat
        · rw [if_pos e3] at h2; omega
        · rw [if_pos (by omega)]; decide
    · rw [if_neg e1] at h1
      by_cases e4 : y.toNat < x.toNat
      · rw [if_pos e4] at h1; omega
      · rw [if_neg e4] at h1
        by_cases e2 : y.toNat < z.toNat
        · rw [if_pos (by omega)]; decide
        · rw [if_neg e2] at h2
          by_cases e3 : z.toNat < y.toNat
          · rw [if_pos e3] at h2; omega
          · rw [if_neg e3] at h2
            rw [if_neg (by omega), if_neg (by omega)]
            exact ih h1 h2

/-- The place of a number's first digit. -/
def place (n : Num) : Int := n.digits.length + n.exp

theorem size_range (a b : Num) : -1 ≤ cmpSize a b ∧ cmpSize a b ≤ 1 := by
  unfold cmpSize; simp only; split
  · exact bytes_range _ _
  · exact int_range _ _
theorem cmp_range (a b : Num) : -1 ≤ cmp a b ∧ cmp a b ≤ 1 := by
  unfold cmp; simp only; split
  · split
    · exact size_range _ _
    · exact size_range _ _
  · exact int_range _ _
theorem size_flip (a b : Num) : cmpSize a b = - cmpSize b a := by
  unfold cmpSize
  simp only
  have h := int_flip (a.digits.length + a.exp) (b.digits.length + b.exp)
  by_cases e : Lib.compareInt (a.digits.length + a.exp) (b.digits.length + b.exp) = 0
  · rw [if_pos e, if_pos (by omega)]; exact bytes_flip _ _
  · rw [if_neg e, if_neg (by omega)]; exact h
theorem size_le (a b : Num) : cmpSize a b ≤ 0 ↔ place a < place b ∨ (place a = place b ∧ Lib.compareBytes a.digits b.digits ≤ 0) := by
  unfold cmpSize place
  simp only
  have h1 := int_zero (a.digits.length + a.exp) (b.digits.length + b.exp)
  have h2 := int_le (a.digits.length + a.exp) (b.digits.length + b.exp)
  by_cases e : Lib.compareInt (a.digits.length + a.exp) (b.digits.length + b.exp) = 0
  · rw [if_pos e]
    have := h1.1 e
    constructor
    · intro h; exact .inr ⟨this, h⟩
    · rintro (h | ⟨_, h⟩)
      · omega
      · exact h
  · rw [if_neg e, h2]
    have : ¬ _ := fun h => e (h1.2 h)
    constructor
    · intro h; left; omega
    · rintro (h | ⟨h, _⟩)
      · omega
      · exact absurd h this
theorem size_next (a b c : Num) (h1 : cmpSize a b ≤ 0) (h2 : cmpSize b c ≤ 0) : cmpSize a c ≤ 0 := by
  rw [size_le] at *
  rcases h1 with h1 | ⟨h1, h1'⟩ <;> rcases h2 with h2 | ⟨h2, h2'⟩
  · left; omega
  · left; omega
  · left; omega
  · right; exact ⟨by omega, bytes_next _ _ _ h1' h2'⟩
theorem size_zero (a b : Num) (h : cmpSize a b = 0) : a.digits = b.digits ∧ a.exp = b.exp := by
  unfold cmpSize at h
  simp only at h
  by_cases e : Lib.compareInt (a.digits.length + a.exp) (b.digits.length + b.exp) = 0
  · rw [if_pos e] at h
    have hd := bytes_zero _ _ h
    have := (int_zero _ _).1 e
    rw [hd] at this
    exact ⟨hd, by omega⟩
  · rw [if_neg e] at h; exact absurd h e
theorem size_self (a : Num) : cmpSize a a = 0 := by
  unfold cmpSize; simp only; rw [if_pos ((int_zero _ _).2 rfl)]; exact bytes_self _

/-- Of numbers that may be: the same sign is the same Neg. -/
theorem sign_neg {a b : Num} (ha : May a) (hb : May b) (h : sign a = sign b) : a.neg = b.neg ∧ (a.digits = [] → a = b) := by
  have key : ∀ n : Num, May n → (n = Num.zero ∧ sign n = 0) ∨ (n.digits ≠ [] ∧ sign n = if n.neg then -1 else 1) := fun n hn => by
    rcases hn with rfl | ⟨hd, _⟩
    · exact .inl ⟨rfl, rfl⟩
    · right
      refine ⟨hd, ?_⟩
      unfold sign
      rw [if_neg (by simpa using hd)]
  rcases key a ha with ⟨rfl, h1⟩ | ⟨h1, h1'⟩ <;> rcases key b hb with ⟨rfl, h2⟩ | ⟨h2, h2'⟩
  · exact ⟨rfl, fun _ => rfl⟩
  · rw [h1, h2'] at h; split at h <;> cases h
  · rw [h1', h2] at h; split at h <;> cases h
  · rw [h1', h2'] at h
    refine ⟨?_, fun e => absurd e h1⟩
    cases ea : a.neg <;> cases eb : b.neg <;> simp [ea, eb] at h <;> rfl

theorem cmp_flip (a b : Num) (ha : May a) (hb : May b) : cmp a b = - cmp b a := by
  unfold cmp
  simp only
  have h := int_flip (sign a) (sign b)
  by_cases e : Lib.compareInt (sign a) (sign b) = 0
  · have e' : Lib.compareInt (sign b) (sign a) = 0 := by omega
    rw [if_pos e, if_pos e']
    have hn := (sign_neg ha hb ((int_zero _ _).1 e)).1
    rw [hn]
    split
    · exact size_flip _ _
    · exact size_flip _ _
  · rw [if_neg e, if_neg (by omega)]; exact h
theorem cmp_same (a b : Num) (ha : May a) (hb : May b) : cmp a b = 0 ↔ a = b := by
  constructor
  · intro h
    unfold cmp at h
    simp only at h
    by_cases e : Lib.compareInt (sign a) (sign b) = 0
    · rw [if_pos e] at h
      have hn := (sign_neg ha hb ((int_zero _ _).1 e)).1
      have hz : a.digits = b.digits ∧ a.exp = b.exp := by
        split at h
        · have := size_zero _ _ h; exact ⟨this.1.symm, this.2.symm⟩
        · exact size_zero _ _ h
      obtain ⟨na, da, xa⟩ := a
      obtain ⟨nb, db, xb⟩ := b
      simp only at hn hz
      rw [hn, hz.1, hz.2]
    · rw [if_neg e] at h; exact absurd h e
  · rintro rfl
    unfold cmp
    simp only
    rw [if_pos ((int_zero _ _).2 rfl)]
    split <;> exact size_self _
theorem cmp_le (a b : Num) : cmp a b ≤ 0 ↔ sign a < sign b ∨ (sign a = sign b ∧ (if a.neg then cmpSize b a ≤ 0 else cmpSize a b ≤ 0)) := by
  unfold cmp
  simp only
  have h1 := int_zero (sign a) (sign b)
  have h2 := int_le (sign a) (sign b)
  by_cases e : Lib.compareInt (sign a) (sign b) = 0
  · rw [if_pos e]
    have := h1.1 e
    constructor
    · intro h
      refine .inr ⟨this, ?_⟩
      split
      · rw [if_pos ‹_›] at h; exact h
      · rw [if_neg ‹_›] at h; exact h
    · rintro (h | ⟨_, h⟩)
      · omega
      · split
        · rw [if_pos ‹_›] at h; exact h
        · rw [if_neg ‹_›] at h; exact h
  · rw [if_neg e, h2]
    have : ¬ _ := fun h => e (h1.2 h)
    constructor
    · intro h; left; omega
    · rintro (h | ⟨h, _⟩)
      · omega
      · exact absurd h this
theorem cmp_next (a b c : Num) (ha : May a) (hb : May b) (h1 : cmp a b ≤ 0) (h2 : cmp b c ≤ 0) : cmp a c ≤ 0 := by
  rw [cmp_le] at *
  rcases h1 with h1 | ⟨h1, h1'⟩ <;> rcases h2 with h2 | ⟨h2, h2'⟩
  · left; omega
  · left; omega
  · left; omega
  · right
    refine ⟨by omega, ?_⟩
    have hn := (sign_neg ha hb h1).1
    cases e : a.neg
    · rw [e] at hn h1'
      rw [← hn] at h2'
      simp at h1' h2' ⊢
      exact size_next _ _ _ h1' h2'
    · rw [e] at hn h1'
      rw [← hn] at h2'
      simp at h1' h2' ⊢
      exact size_next _ _ _ h2' h1'

end Go.Proofs.YtbcoakonjgakbaaDoor.Nm
