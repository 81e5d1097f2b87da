/- Plain mathematics of layer 1 (num), ninth part: where a number's text ends, by the document's definition. -/
import Derived.Test.YtbcoakonjgakbaaDoorPureh
namespace Go.Proofs.YtbcoakonjgakbaaDoor.Nm

/-- What is behind an exponent, and whether there is one as it must be, if there is one. -/
def endExp (t : List UInt8) : List UInt8 × Bool :=
  match t with
  | [] => ([], true)
  | c :: r => if c = 101 ∨ c = 69 then (suf (unsgn r), !(pre (unsgn r)).isEmpty) else (c :: r, true)
def endPoint (t : List UInt8) : List UInt8 × Bool :=
  match t with
  | 46 :: r => if (pre r).isEmpty then (suf r, false) else endExp (suf r)
  | _ => endExp t
def endOf (t : List UInt8) : List UInt8 × Bool :=
  let t1 := Lib.trimPrefix t [45]
  if (pre t1).isEmpty then (t1, false) else endPoint (if t1.head? = some 48 then t1.drop 1 else suf t1)

theorem endPoint_none (t : List UInt8) (h : ¬ t.head? = some 46) : endPoint t = endExp t := by
  unfold endPoint
  split
  · simp at h
  · rfl
theorem endExp_bad (c : UInt8) (r : List UInt8) (h : ¬ (c = 101 ∨ c = 69)) : endExp (c :: r) = (c :: r, true) := by
  simp only [endExp]; rw [if_neg h]
theorem endExp_exp (c : UInt8) (r : List UInt8) (h : c = 101 ∨ c = 69) : endExp (c :: r) = (suf (unsgn r), !(pre (unsgn r)).isEmpty) := by
  simp only [endExp]; rw [if_pos h]

theorem tail_end (neg : Bool) (w f s : List UInt8) : (tail neg w f s).2 = true ↔ endExp s = ([], true) := by
  cases s with
  | nil => simp [tail, endExp]
  | cons c r =>
    by_cases h : c = 101 ∨ c = 69
    · rw [tail_exp _ _ _ _ _ h, endExp_exp _ _ h]
      simp only [Bool.and_eq_true, Prod.mk.injEq, List.isEmpty_iff]
      exact ⟨fun h => ⟨h.2, h.1⟩, fun h => ⟨h.2, h.1⟩⟩
    · rw [tail_bad _ _ _ _ _ h, endExp_bad _ _ h]; simp

theorem after_end (neg : Bool) (w s : List UInt8) : (afterWhole neg w s).2 = true ↔ endPoint s = ([], true) := by
  by_cases h : s.head? = some 46
  · obtain ⟨r, rfl⟩ : ∃ r, s = 46 :: r := by
      cases s with
      | nil => cases h
      | cons d t => exact ⟨t, by rw [Option.some.inj h]⟩
    rw [afterWhole_point, show endPoint (46 :: r) = if (pre r).isEmpty then (suf r, false) else endExp (suf r) from rfl]
    split
    · simp
    · exact tail_end _ _ _ _
  · rw [afterWhole_none _ _ _ h, endPoint_none _ h]
    exact tail_end _ _ _ _

theorem split_end (l : List UInt8) : (split l).2 = true ↔ endOf l = ([], true) := by
  unfold split endOf
  simp only
  generalize Lib.trimPrefix l [45] = t
  have hd0 := pre_dig t
  have ht0 := pre_suf t
  generalize pre t = pt at hd0 ht0 ⊢
  generalize suf t = st at ht0 ⊢
  cases pt with
  | nil => simp [badWhole]
  | cons c r =>
    have ht : t = c :: (r ++ st) := ht0.symm
    have hh : t.head? = some c := by rw [ht]; rfl
    simp only [List.isEmpty_cons, Bool.false_eq_true, if_false, hh]
    by_cases hb : badWhole (c :: r) = true
    · rw [if_pos hb]
      have hb' : 0 < r.length ∧ c = 48 := by
        simp [badWhole] at hb
        exact ⟨by omega, hb.2⟩
      obtain ⟨hr, rfl⟩ := hb'
      rw [if_pos rfl]
      cases r with
      | nil => simp at hr
      | cons d r =>
        have hd : dig d = true := hd0 d (by simp)
        have e : t.drop 1 = d :: (r ++ st) := by rw [ht]; rfl
        rw [e, endPoint_none _ (by simpa using dig_ne d 46 hd (by decide)), endExp_bad _ _ (by
          rintro (h | h)
          · exact dig_ne d 101 hd (by decide) h
          · exact dig_ne d 69 hd (by decide) h)]
        simp
    · rw [if_neg hb]
      have e : (if some c = some 48 then t.drop 1 else st) = st := by
        split
        · rename_i h
          have hc : c = 48 := Option.some.inj h
          have hr : r = [] := by
            cases r with
            | nil => rfl
            | cons d r => exact absurd (by simp [badWhole, hc]) hb
          rw [ht, hr]; rfl
        · rfl
      rw [e]
      exact after_end _ _ _

end Go.Proofs.YtbcoakonjgakbaaDoor.Nm
