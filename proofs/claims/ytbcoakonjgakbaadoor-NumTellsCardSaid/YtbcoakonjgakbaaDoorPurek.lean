/- Plain mathematics of layer 1 (num), eleventh part: going over a number's text gives its number. -/
import Derived.Test.YtbcoakonjgakbaaDoorPurej
namespace Go.Proofs.YtbcoakonjgakbaaDoor.Nm

theorem fold_exp (n : Bool) (D : List UInt8) (b : Nat) (pt dn : Bool) : ∀ (d : List UInt8) (e : Int), (∀ c ∈ d, dig c = true) → d.foldl step ⟨n, D, b, pt, e, dn, true⟩ = ⟨n, D, b, pt, d.foldl stepE e, dn, true⟩
  | [], _, _ => rfl
  | c :: r, e, h => by
      have hc : dig c = true := h c (by simp)
      have h45 : (c == 45) = false := by simpa using dig_ne c 45 hc (by decide)
      rw [List.foldl_cons, List.foldl_cons, show step ⟨n, D, b, pt, e, dn, true⟩ c = ⟨n, D, b, pt, stepE e c, dn, true⟩ from by simp [step, h45]]
      exact fold_exp n D b pt dn r _ (fun x hx => h x (by simp [hx]))

theorem fold_dig (n : Bool) (pt : Bool) (e : Int) (dn : Bool) : ∀ (d D : List UInt8) (b : Nat), (∀ c ∈ d, dig c = true) → d.foldl step ⟨n, D, b, pt, e, dn, false⟩ = ⟨n, D ++ d, if pt then b + d.length else b, pt, e, dn, false⟩
  | [], D, b, _ => by cases pt <;> simp
  | c :: r, D, b, h => by
      have hc : dig c = true := h c (by simp)
      have h1 := dig_ne c 45 hc (by decide)
      have h2 := dig_ne c 46 hc (by decide)
      have h3 := dig_ne c 101 hc (by decide)
      have h4 := dig_ne c 69 hc (by decide)
      rw [List.foldl_cons, show step ⟨n, D, b, pt, e, dn, false⟩ c = ⟨n, D ++ [c], if pt then b + 1 else b, pt, e, dn, false⟩ from by simp [step, h1, h2, h3, h4], fold_dig n pt e dn r _ _ (fun x hx => h x (by simp [hx]))]
      cases pt
      · simp
      · simp [Nat.add_assoc, Nat.add_comm 1]

/-- What is gathered of a text in order, and its pieces. -/
def Same (n : Bool) (D : List UInt8) (b : Nat) (sc : Sc) (p : Parts) : Prop :=
  (∀ c ∈ p.exp, dig c = true) ∧ sc.neg = n ∧ sc.digits = D ∧ sc.behind = b ∧ sc.exp = p.exp.foldl stepE 0 ∧ sc.down = p.expNeg

theorem tail_scan (neg : Bool) (w f s : List UInt8) (n : Bool) (D : List UInt8) (b : Nat) (pt : Bool) (h : (tail neg w f s).2 = true) :
    (tail neg w f s).1.neg = neg ∧ (tail neg w f s).1.whole = w ∧ (tail neg w f s).1.frac = f ∧ Same n D b (s.foldl step ⟨n, D, b, pt, 0, false, false⟩) (tail neg w f s).1 := by
  cases s with
  | nil => exact ⟨rfl, rfl, rfl, fun _ h => (by cases h), rfl, rfl, rfl, rfl, rfl⟩
  | cons c r =>
    by_cases hc : c = 101 ∨ c = 69
    · rw [tail_exp _ _ _ _ _ hc] at h ⊢
      simp only [Bool.and_eq_true, List.isEmpty_iff] at h
      have hr : unsgn r = pre (unsgn r) := by
        have := pre_suf (unsgn r); rw [h.2, List.append_nil] at this; exact this.symm
      have hd := pre_dig (unsgn r)
      refine ⟨rfl, rfl, rfl, hd, ?_⟩
      rw [← hr] at hd ⊢
      simp only
      have h0 : step ⟨n, D, b, pt, 0, false, false⟩ c = ⟨n, D, b, pt, 0, false, true⟩ := by
        rcases hc with rfl | rfl <;> rfl
      rw [List.foldl_cons, h0]
      cases r with
      | nil => exact ⟨rfl, rfl, rfl, rfl, rfl⟩
      | cons d t =>
        by_cases h45 : d = 45
        · subst h45
          have e1 : unsgn (45 :: t) = t := rfl
          rw [e1] at hd ⊢
          rw [List.foldl_cons, show step ⟨n, D, b, pt, 0, false, true⟩ 45 = ⟨n, D, b, pt, 0, true, true⟩ from rfl, fold_exp _ _ _ _ _ _ _ hd]
          exact ⟨rfl, rfl, rfl, rfl, rfl⟩
        · by_cases h43 : d = 43
          · subst h43
            have e1 : unsgn (43 :: t) = t := rfl
            rw [e1] at hd ⊢
            rw [List.foldl_cons, show step ⟨n, D, b, pt, 0, false, true⟩ 43 = ⟨n, D, b, pt, 0, false, true⟩ from rfl, fold_exp _ _ _ _ _ _ _ hd]
            exact ⟨rfl, rfl, rfl, rfl, rfl⟩
          · have e1 : unsgn (d :: t) = d :: t := by simp [unsgn, h45, h43]
            rw [e1] at hd ⊢
            rw [fold_exp _ _ _ _ _ _ _ hd]
            exact ⟨rfl, rfl, rfl, rfl, by simp [sgn, h45]⟩
    · rw [tail_bad _ _ _ _ _ hc] at h; cases h

theorem after_scan (neg : Bool) (w s : List UInt8) (h : (afterWhole neg w s).2 = true) :
    (afterWhole neg w s).1.neg = neg ∧ (afterWhole neg w s).1.whole = w ∧ Same neg (w ++ (afterWhole neg w s).1.frac) (afterWhole neg w s).1.frac.length (s.foldl step ⟨neg, w, 0, false, 0, false, false⟩) (afterWhole neg w s).1 := by
  by_cases h46 : s.head? = some 46
  · obtain ⟨r, rfl⟩ : ∃ r, s = 46 :: r := by
      cases s with
      | nil => cases h46
      | cons d t => exact ⟨t, by rw [Option.some.inj h46]⟩
    rw [afterWhole_point] at h ⊢
    by_cases hp : (pre r).isEmpty = true
    · rw [if_pos hp] at h; cases h
    · rw [if_neg hp] at h ⊢
      rw [List.foldl_cons, show step ⟨neg, w, 0, false, 0, false, false⟩ 46 = ⟨neg, w, 0, true, 0, false, false⟩ from rfl]
      have hf : r.foldl step ⟨neg, w, 0, true, 0, false, false⟩ = (suf r).foldl step ⟨neg, w ++ pre r, (pre r).length, true, 0, false, false⟩ := by
        conv => lhs; rw [← pre_suf r]
        rw [List.foldl_append, fold_dig _ _ _ _ _ _ _ (pre_dig r)]
        simp
      rw [hf]
      obtain ⟨a1, a2, a3, a4⟩ := tail_scan neg w (pre r) (suf r) neg (w ++ pre r) (pre r).length true h
      refine ⟨a1, a2, ?_⟩
      rw [a3]
      exact a4
  · rw [afterWhole_none _ _ _ h46] at h ⊢
    obtain ⟨a1, a2, a3, a4⟩ := tail_scan neg w [] s neg w 0 false h
    refine ⟨a1, a2, ?_⟩
    rw [a3, List.append_nil]
    exact a4

theorem split_scan (l : List UInt8) (h : (split l).2 = true) : Same (split l).1.neg ((split l).1.whole ++ (split l).1.frac) (split l).1.frac.length (scan l) (split l).1 := by
  unfold split at h ⊢
  simp only at h ⊢
  have hl : l.foldl step Sc.start = (Lib.trimPrefix l [45]).foldl step ⟨Lib.hasPrefix l [45], [], 0, false, 0, false, false⟩ := by
    by_cases h45 : l.head? = some 45
    · obtain ⟨r, rfl⟩ : ∃ r, l = 45 :: r := by
        cases l with
        | nil => cases h45
        | cons d t => exact ⟨t, by rw [Option.some.inj h45]⟩
      rw [(prefix_yes r).1, (prefix_yes r).2]
      rfl
    · have hn := prefix_no l (fun c hc e => h45 (by rw [hc, e]))
      rw [hn.1, hn.2]
      rfl
  by_cases hb : badWhole (pre (Lib.trimPrefix l [45])) = true
  · rw [if_pos hb] at h; cases h
  · rw [if_neg hb] at h ⊢
    obtain ⟨a1, a2, a3⟩ := after_scan _ _ _ h
    rw [a1, a2]
    unfold scan
    rw [hl]
    have e : (Lib.trimPrefix l [45]).foldl step ⟨Lib.hasPrefix l [45], [], 0, false, 0, false, false⟩ = (suf (Lib.trimPrefix l [45])).foldl step ⟨Lib.hasPrefix l [45], pre (Lib.trimPrefix l [45]), 0, false, 0, false, false⟩ := by
      conv => lhs; rw [← pre_suf (Lib.trimPrefix l [45])]
      rw [List.foldl_append, fold_dig _ _ _ _ _ _ _ (pre_dig _)]
      simp
    rw [e]
    exact a3

theorem exp_same : ∀ (l : List UInt8) (e : Int), 0 ≤ e → (∀ c ∈ l, dig c = true) → l.foldl stepE (min e 1000000) = min (l.foldl (fun e c => min (e * 10 + ((c.toNat : Int) - 48)) far) e) 1000000
  | [], _, _, _ => rfl
  | c :: r, e, h0, h => by
      have hc : dig c = true := h c (by simp)
      have hb := dig_bd hc
      rw [List.foldl_cons, List.foldl_cons, show stepE (min e 1000000) c = min (min (e * 10 + ((c.toNat : Int) - 48)) far) 1000000 from by
        unfold stepE far; rw [if_pos hc]; omega]
      exact exp_same r _ (by unfold far; omega) (fun x hx => h x (by simp [hx]))

theorem made_eq (neg : Bool) (d : List UInt8) (X X' : Int) (h : X = X' ∨ ((X < -1000 ∨ 1000 < X) ∧ (X' < -1000 ∨ 1000 < X'))) :
    (if (if 60 < d.length ∨ X < -1000 ∨ 1000 < X then (Num.zero, false) else (⟨neg, d, X⟩, true) : Num × Bool).2 = true then ((if 60 < d.length ∨ X < -1000 ∨ 1000 < X then (Num.zero, false) else (⟨neg, d, X⟩, true) : Num × Bool).1, (0 : Int)) else (Num.zero, 5)) = if mayN d.length X' = true then (⟨neg, d, X'⟩, 0) else (Num.zero, 5) := by
  by_cases hq : 60 < d.length ∨ X < -1000 ∨ 1000 < X
  · have hm : mayN d.length X' = false := by
      unfold mayN
      simp only [Bool.not_eq_false', Bool.or_eq_true, decide_eq_true_eq]
      omega
    rw [if_pos hq, hm] <;> rfl
  · have hm : mayN d.length X' = true := by
      unfold mayN
      simp only [Bool.not_eq_true', Bool.or_eq_false_iff, decide_eq_false_iff_not]
      omega
    have e : X = X' := by omega
    subst e
    rw [if_neg hq, hm] <;> rfl

theorem numLaw (l : List UInt8) (hl : l.length ≤ 100000) : NumLaw l := by
  intro h
  obtain ⟨s1, s2, s3, s4, s5, s6⟩ := split_scan l h
  have hs := split_sound l
  have hd := split_dig l
  refine ⟨by rw [s3]; exact hd, ?_⟩
  have he : (scan l).exp = min (expo (split l).1.exp) 1000000 := by
    rw [s5]; exact exp_same _ 0 (by decide) s1
  have hbd := expo_bd _ s1
  unfold parse parseOf refNum
  rw [if_pos h, s2, s3, s4, he, s6]
  obtain ⟨-, -, hz⟩ := hs
  simp only
  rw [normal_core]
  unfold made expOf
  generalize hD : (split l).1.whole ++ (split l).1.frac = D at *
  have hDl : D.length ≤ 100000 := by rw [← hD, List.length_append]; omega
  obtain ⟨a, ha⟩ := left_eq D
  obtain ⟨b, hb⟩ := core_len D
  have hal : D.length = a + (Lib.trimLeftB D 48).length := by
    conv => lhs; rw [ha]
    simp
  have hbl : (Lib.trimLeftB D 48).length = (core D).length + b := by rw [hb]; simp
  generalize (split l).1.frac.length = fl at *
  generalize expo (split l).1.exp = ex at *
  by_cases hc : (core D).isEmpty = true
  · rw [if_pos hc, if_pos hc]; rfl
  · rw [if_neg hc, if_neg hc]
    have hfl : fl ≤ 100000 := by omega
    cases (split l).1.expNeg
    all_goals
      simp only [Bool.false_eq_true, if_false, if_true]
      refine made_eq _ _ _ _ ?_
      omega

end Go.Proofs.YtbcoakonjgakbaaDoor.Nm
