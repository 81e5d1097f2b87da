/- Plain mathematics of layer 1 (num), twelfth part: both orders of numbers are one. -/
import Derived.Test.YtbcoakonjgakbaaDoorPurek
namespace Go.Proofs.YtbcoakonjgakbaaDoor.Nm

theorem less_bytes : ∀ x y : List UInt8, Op.bytesLess x y = decide (Lib.compareBytes x y = -1)
  | [], [] => by decide
  | _ :: _, [] => by simp [Op.bytesLess, Lib.compareBytes]
  | [], _ :: _ => by simp [Op.bytesLess, Lib.compareBytes]
  | a :: x, b :: y => by
    have hcb : Lib.compareBytes (a :: x) (b :: y) = if a < b then -1 else if b < a then 1 else Lib.compareBytes x y := by simp only [Lib.compareBytes]
    rw [Bool.eq_iff_iff, decide_eq_true_eq, hcb, Op.bytesLess, less_bytes x y]
    by_cases h1 : a < b
    · rw [if_pos h1]; simp [h1]
    · rw [if_neg h1]
      by_cases h2 : b < a
      · rw [if_pos h2]
        have hne : (a == b) = false := by
          rw [beq_eq_false_iff_ne]; rintro rfl; exact h1 h2
        simp [h1, hne]
      · rw [if_neg h2]
        have e : a = b := UInt8.toNat_inj.1 (by simp only [UInt8.lt_iff_toNat_lt] at h1 h2; omega)
        subst e
        simp [h1]

theorem shorter_size (a b : Num) (m : Int) (ha : a.digits ≠ []) (hb : b.digits ≠ []) (da : ∀ c ∈ a.digits, dig c = true) (db : ∀ c ∈ b.digits, dig c = true) (la : a.digits.getLast? ≠ some 48) (lb : b.digits.getLast? ≠ some 48) (h1 : m ≤ a.exp) (h2 : m ≤ b.exp) :
    shorter (full a.digits (a.exp - m).toNat) (full b.digits (b.exp - m).toNat) = decide (cmpSize a b = -1) := by
  rw [Bool.eq_iff_iff, decide_eq_true_eq]
  unfold full
  rw [if_neg (by simpa using ha), if_neg (by simpa using hb)]
  unfold shorter cmpSize
  simp only [List.length_append, List.length_replicate]
  have hz := int_zero (a.digits.length + a.exp) (b.digits.length + b.exp)
  have hl := int_le (a.digits.length + a.exp) (b.digits.length + b.exp)
  have hr := int_range (a.digits.length + a.exp) (b.digits.length + b.exp)
  by_cases e : Lib.compareInt (a.digits.length + a.exp) (b.digits.length + b.exp) = 0
  · have e' := hz.1 e
    have hlen : a.digits.length + (a.exp - m).toNat = b.digits.length + (b.exp - m).toNat := by omega
    rw [if_pos hlen, if_pos e, less_bytes, decide_eq_true_eq, pad _ _ _ _ da db la lb hlen]
  · have hne : ¬ (a.digits.length : Int) + a.exp = b.digits.length + b.exp := fun h => e (hz.2 h)
    rw [if_neg (by omega), if_neg e]
    generalize Lib.compareInt (a.digits.length + a.exp) (b.digits.length + b.exp) = ci at *
    rw [decide_eq_true_eq]
    refine ⟨fun h => ?_, fun h => ?_⟩
    · have := hl.2 (by omega); omega
    · have := hl.1 (by omega); omega

theorem full_len (d : List UInt8) (n : Nat) (h : d ≠ []) : 0 < (full d n).length := by
  unfold full
  rw [if_neg (by simpa using h)]
  have : 0 < d.length := List.length_pos_iff.2 h
  simp only [List.length_append]; omega

theorem shorter_nil (y : List UInt8) (h : 0 < y.length) : shorter [] y = true ∧ shorter y [] = false := by
  unfold shorter
  simp only [List.length_nil]
  rw [if_neg (by omega), if_neg (by omega)]
  simp; omega

theorem refCmp_eq (a b : Num) (ha : May a) (hb : May b) : refCmp a b = cmp a b := by
  rcases ha with rfl | ⟨ha, da, _, la, _, _, _⟩ <;> rcases hb with rfl | ⟨hb, db, _, lb, _, _, _⟩
  · decide
  · have hl := fun n => shorter_nil _ (full_len b.digits n hb)
    have hf : ∀ n, full [] n = [] := fun _ => rfl
    obtain ⟨nb, d, x⟩ := b
    have hs : d.isEmpty = false := by simpa using hb
    cases nb
    · simp only [refCmp, less, cmp, Num.zero, sign, hf, hs, hl, Lib.compareInt, if_true, if_false, Bool.false_eq_true, List.isEmpty_nil]; simp
    · simp only [refCmp, less, cmp, Num.zero, sign, hs, Lib.compareInt, if_true, if_false, Bool.false_eq_true, List.isEmpty_nil]; simp
  · have hl := fun n => shorter_nil _ (full_len a.digits n ha)
    have hf : ∀ n, full [] n = [] := fun _ => rfl
    obtain ⟨na, d, x⟩ := a
    have hs : d.isEmpty = false := by simpa using ha
    cases na
    · simp only [refCmp, less, cmp, Num.zero, sign, hf, hs, hl, Lib.compareInt, if_true, if_false, Bool.false_eq_true, List.isEmpty_nil]; simp
    · simp only [refCmp, less, cmp, Num.zero, sign, hs, Lib.compareInt, if_true, if_false, Bool.false_eq_true, List.isEmpty_nil]; simp
  · have h1 := shorter_size a b (min a.exp b.exp) ha hb da db la lb (by omega) (by omega)
    have h2 := shorter_size b a (min a.exp b.exp) hb ha db da lb la (by omega) (by omega)
    have hm : min b.exp a.exp = min a.exp b.exp := by omega
    have hfl := size_flip a b
    have hra := size_range a b
    have hsa : a.digits.isEmpty = false := by simpa using ha
    have hsb : b.digits.isEmpty = false := by simpa using hb
    unfold refCmp less cmp sign
    rw [hm, h1, h2, hsa, hsb]
    generalize cmpSize a b = s at *
    generalize cmpSize b a = t at *
    cases a.neg <;> cases b.neg
    · simp [Lib.compareInt]; split
      · omega
      · split <;> omega
    · simp [Lib.compareInt]
    · simp [Lib.compareInt]
    · simp [Lib.compareInt]; split
      · omega
      · split <;> omega

theorem at_least (n : Num) (h : May n) : (n.digits.isEmpty || decide (0 ≤ n.exp)) = decide (0 ≤ n.exp) := by
  rcases h with rfl | ⟨h, _⟩
  · decide
  · rw [show n.digits.isEmpty = false from by simpa using h]; simp

end Go.Proofs.YtbcoakonjgakbaaDoor.Nm
