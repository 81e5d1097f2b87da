/- Plain mathematics of layer 1 (num), seventh part: what is shown is parsed; counts; the laws. -/
import Derived.Test.YtbcoakonjgakbaaDoorPuref
namespace Go.Proofs.YtbcoakonjgakbaaDoor.Nm

/-! ### Digits of a count -/

theorem pre_all (d e : List UInt8) (hd : ∀ c ∈ d, dig c = true) (he : ∀ c, e.head? = some c → dig c = false) : pre (d ++ e) = d ∧ suf (d ++ e) = e := by
  induction d with
  | nil =>
    cases e with
    | nil => exact ⟨rfl, rfl⟩
    | cons x r =>
      have := he x rfl
      simp [pre, suf, this]
  | cons x r ih =>
    have hx := hd x (by simp)
    have h := ih (fun c hc => hd c (by simp [hc]))
    simp only [pre, suf] at h ⊢
    simp [hx, h]

theorem dig_ofNat (k : Nat) (h : k < 10) : dig (UInt8.ofNat (48 + k)) = true ∧ (UInt8.ofNat (48 + k)).toNat = 48 + k := by
  have e : (UInt8.ofNat (48 + k)).toNat = 48 + k := by
    rw [UInt8.toNat_ofNat']; omega
  exact ⟨by unfold dig; rw [e]; simp; omega, e⟩

theorem dec_dig (u : Nat) : ∀ c ∈ Lib.decDigits u, dig c = true := by
  induction u using Nat.strongRecOn with
  | ind u ih =>
    rw [Lib.decDigits]
    split
    · intro c hc; rw [List.mem_singleton] at hc; subst hc; exact (dig_ofNat u (by omega)).1
    · intro c hc
      rcases List.mem_append.1 hc with h | h
      · exact ih (u / 10) (by omega) c h
      · rw [List.mem_singleton] at h; subst h; exact (dig_ofNat (u % 10) (by omega)).1
theorem dec_ne (u : Nat) : Lib.decDigits u ≠ [] := by
  rw [Lib.decDigits]; split <;> simp
theorem dec_head (u : Nat) (h : u ≠ 0) : (Lib.decDigits u).head? ≠ some 48 := by
  induction u using Nat.strongRecOn with
  | ind u ih =>
    rw [Lib.decDigits]
    split
    · rename_i h10
      intro e
      rw [List.head?_cons, Option.some.injEq] at e
      have := (dig_ofNat u h10).2
      rw [e] at this
      have h48 : (48 : UInt8).toNat = 48 := rfl
      omega
    · have := ih (u / 10) (by omega) (by omega)
      cases hc : Lib.decDigits (u / 10) with
      | nil => exact absurd hc (dec_ne _)
      | cons x r => rw [hc] at this; simpa using this
theorem expo_dec (u : Nat) (h : u ≤ 1000000) : expo (Lib.decDigits u) = u := by
  induction u using Nat.strongRecOn with
  | ind u ih =>
    rw [Lib.decDigits]
    split
    · rename_i h10
      have e := (dig_ofNat u h10).2
      simp only [expo, List.foldl_cons, List.foldl_nil, e, far]
      omega
    · have h1 := ih (u / 10) (by omega) (by omega)
      have e := (dig_ofNat (u % 10) (by omega)).2
      unfold expo at h1 ⊢
      rw [List.foldl_append, h1]
      simp only [List.foldl_cons, List.foldl_nil, e, far]
      omega

theorem dig_ne (c k : UInt8) (h : dig c = true) (hk : dig k = false) : c ≠ k := fun e => by subst e; rw [h] at hk; cases hk

/-! ### What is shown is parsed -/

theorem head_of_all (d : List UInt8) (hd : ∀ c ∈ d, dig c = true) (c : UInt8) (h : d.head? = some c) : dig c = true :=
  hd c (List.mem_of_mem_head? h)

theorem prefix_no (d : List UInt8) (h : ∀ c, d.head? = some c → c ≠ 45) : Lib.hasPrefix d [45] = false ∧ Lib.trimPrefix d [45] = d := by
  have hp : Lib.hasPrefix d [45] = false := by
    rw [prefix_one]
    cases hd : d.head? with
    | none => rfl
    | some c => simpa using h c hd
  exact ⟨hp, by unfold Lib.trimPrefix; rw [hp]; rfl⟩
theorem prefix_yes (d : List UInt8) : Lib.hasPrefix (45 :: d) [45] = true ∧ Lib.trimPrefix (45 :: d) [45] = d := by
  have hp : Lib.hasPrefix (45 :: d) [45] = true := by rw [prefix_one]; rfl
  exact ⟨hp, by unfold Lib.trimPrefix; rw [hp]; rfl⟩

theorem bad_no (d : List UInt8) (h0 : d ≠ []) (h1 : d.head? ≠ some 48) : badWhole d = false := by
  unfold badWhole
  cases d with
  | nil => exact absurd rfl h0
  | cons x r =>
    simp only [List.isEmpty_cons, Bool.false_or, Bool.and_eq_false_iff]
    right
    simpa using h1

/-- The pieces of digits, and an exponent behind them. -/
theorem split_digits (neg : Bool) (l d e : List UInt8) (hn : Lib.hasPrefix l [45] = neg) (ht : Lib.trimPrefix l [45] = d ++ e) (hd : ∀ c ∈ d, dig c = true) (hb : badWhole d = false) (he : ∀ c, e.head? = some c → dig c = false) (h46 : ¬ e.head? = some 46) :
    split l = tail neg d [] e := by
  have hp := pre_all d e hd he
  rw [split_eq ht hn hp.1 hp.2, if_neg (by rw [hb]; decide), afterWhole_none _ _ _ h46]

theorem itoa_parts (x : Int) (h1 : -1000 ≤ x) (h2 : x ≤ 1000) : ∃ m : Nat, sgn (Lib.itoa x) = decide (x < 0) ∧ unsgn (Lib.itoa x) = Lib.decDigits m ∧ (if x < 0 then - (m : Int) else m) = x ∧ m ≤ 1000 := by
  unfold Lib.itoa
  by_cases h : x < 0
  · rw [if_pos h]
    exact ⟨x.natAbs, by simp [sgn, h], by simp [unsgn], by rw [if_pos h]; omega, by omega⟩
  · rw [if_neg h]
    refine ⟨x.toNat, ?_, ?_, by rw [if_neg h]; omega, by omega⟩
    · cases hc : Lib.decDigits x.toNat with
      | nil => exact absurd hc (dec_ne _)
      | cons c r =>
        have := dec_dig x.toNat c (by rw [hc]; simp)
        have h45 : c ≠ 45 := dig_ne c 45 this (by decide)
        simp [sgn, h45, h]
    · cases hc : Lib.decDigits x.toNat with
      | nil => exact absurd hc (dec_ne _)
      | cons c r =>
        have := dec_dig x.toNat c (by rw [hc]; simp)
        have h45 : c ≠ 45 := dig_ne c 45 this (by decide)
        have h43 : c ≠ 43 := dig_ne c 43 this (by decide)
        simp [unsgn, h45, h43]

theorem core_id (d : List UInt8) (h1 : d.head? ≠ some 48) (h2 : d.getLast? ≠ some 48) : core d = d := by
  unfold core; rw [left_id d h1, right_id d h2]

theorem tail_text (neg : Bool) (d : List UInt8) (x : Int) (h1 : -1000 ≤ x) (h2 : x ≤ 1000) :
    ∃ p3 b, tail neg d [] (if x = 0 then [] else 101 :: Lib.itoa x) = (⟨neg, d, [], b, p3⟩, true) ∧ expOf ⟨neg, d, [], b, p3⟩ = x := by
  by_cases hx : x = 0
  · subst hx
    exact ⟨[], false, by rw [if_pos rfl]; rfl, rfl⟩
  · obtain ⟨m, e1, e2, e3, e4⟩ := itoa_parts x h1 h2
    have hp := pre_all (Lib.decDigits m) [] (dec_dig m) (fun c h => by cases h)
    rw [List.append_nil] at hp
    refine ⟨Lib.decDigits m, decide (x < 0), ?_, ?_⟩
    · rw [if_neg hx, tail_exp _ _ _ _ _ (.inl rfl), e1, e2, hp.1, hp.2]
      cases hc : Lib.decDigits m with
      | nil => exact absurd hc (dec_ne _)
      | cons c r => rfl
    · unfold expOf
      simp only
      rw [expo_dec m (by omega)]
      by_cases h : x < 0
      · rw [if_pos h] at e3; simp [h, e3]
      · rw [if_neg h] at e3; simp [h, e3]

theorem parse_text (n : Num) (h : May n) : parse (text n) = (n, 0) := by
  rcases h with rfl | ⟨h0, hd, hh, hl, h60, hx1, hx2⟩
  · decide
  · obtain ⟨neg, d, x⟩ := n
    simp only at h0 hd hh hl h60 hx1 hx2
    have hb := bad_no d h0 hh
    have he1 : ∀ c, (if x = 0 then [] else 101 :: Lib.itoa x : List UInt8).head? = some c → dig c = false := by
      intro c hc
      split at hc
      · cases hc
      · simp at hc; subst hc; decide
    have he2 : ¬ (if x = 0 then [] else 101 :: Lib.itoa x : List UInt8).head? = some 46 := by
      split
      · simp
      · simp
    obtain ⟨p3, b, t1, t2⟩ := tail_text neg d x hx1 hx2
    have hs : split (text ⟨neg, d, x⟩) = (⟨neg, d, [], b, p3⟩, true) := by
      rw [← t1]
      have e : d.isEmpty = false := by simpa using h0
      unfold text
      simp only [e, Bool.false_eq_true, if_false]
      cases neg
      · simp only [Bool.false_eq_true, if_false, List.nil_append]
        have hp := prefix_no (d ++ if x = 0 then [] else 101 :: Lib.itoa x) (fun c hc => by
          cases d with
          | nil => exact absurd rfl h0
          | cons y r =>
            simp at hc
            subst hc
            exact dig_ne y 45 (hd y (by simp)) (by decide))
        exact split_digits false _ d _ hp.1 hp.2 hd hb he1 he2
      · simp only [if_true]
        have hp := prefix_yes (d ++ if x = 0 then [] else 101 :: Lib.itoa x)
        exact split_digits true _ d _ hp.1 hp.2 hd hb he1 he2
    unfold parse
    rw [hs, parseOf_eq]
    have hn : normal neg (d ++ []) (expOf ⟨neg, d, [], b, p3⟩ - ([] : List UInt8).length) = (⟨neg, d, x⟩, true) := by
      rw [List.append_nil, t2, normal_core, core_id d hh hl, left_id d hh, if_neg (by simpa using h0), if_neg (by simp; omega)]
      simp
    rw [hn]
    rfl

theorem text_len (n : Num) (h : May n) : (text n).length ≤ 100 := by
  rcases h with rfl | ⟨h0, hd, hh, hl, h60, hx1, hx2⟩
  · decide
  · have hi := Lib.itoa_length_le n.exp (by omega) (by omega)
    unfold text
    split
    · decide
    · simp only [List.length_append]
      have h1 : (if n.neg then [45] else [] : List UInt8).length ≤ 1 := by split <;> decide
      have h2 : (if n.exp = 0 then [] else 101 :: Lib.itoa n.exp : List UInt8).length ≤ 22 := by
        split
        · decide
        · simp; omega
      omega

/-! ### Counts -/

theorem zeros_lt : ∀ s : List UInt8, (∀ c ∈ s, dig c = true) → (∃ c ∈ s, c ≠ 48) → Lib.compareBytes (List.replicate s.length 48) s = -1
  | [], _, h => by obtain ⟨c, hc, _⟩ := h; cases hc
  | y :: s, hd, h => by
    rw [List.length_cons, List.replicate_succ]
    simp only [Lib.compareBytes, UInt8.lt_iff_toNat_lt]
    have hy := dig_bd (hd y (by simp))
    have h48 : (48 : UInt8).toNat = 48 := rfl
    by_cases e : 48 < y.toNat
    · rw [if_pos (by omega)]
    · rw [if_neg (by omega), if_neg (by omega)]
      refine zeros_lt s (fun c hc => hd c (by simp [hc])) ?_
      obtain ⟨c, hc, hne⟩ := h
      rcases List.mem_cons.1 hc with rfl | hc'
      · exact absurd (UInt8.toNat_inj.1 (by rw [h48]; omega)) hne
      · exact ⟨c, hc', hne⟩

theorem last_ne (y : UInt8) (s : List UInt8) (h : (y :: s).getLast? ≠ some 48) : ∃ c ∈ y :: s, c ≠ 48 := by
  refine ⟨(y :: s).getLast (by simp), List.getLast_mem _, fun e => h ?_⟩
  rw [List.getLast?_eq_some_getLast (by simp), e]
theorem last_tail (y : UInt8) (s : List UInt8) (h : (y :: s).getLast? ≠ some 48) : s.getLast? ≠ some 48 := by
  cases s with
  | nil => simp
  | cons z r => simpa [List.getLast?_cons_cons] using h

/-- 0s behind two texts of digits that end in none: their order is as it was, if both are of one length then. -/
theorem pad : ∀ (r1 r2 : List UInt8) (b1 b2 : Nat), (∀ c ∈ r1, dig c = true) → (∀ c ∈ r2, dig c = true) → r1.getLast? ≠ some 48 → r2.getLast? ≠ some 48 → r1.length + b1 = r2.length + b2 →
    Lib.compareBytes (r1 ++ List.replicate b1 48) (r2 ++ List.replicate b2 48) = Lib.compareBytes r1 r2
  | [], [], b1, b2, _, _, _, _, h => by
    have e : b1 = b2 := by simpa using h
    subst e
    exact (bytes_self _).trans rfl
  | [], y :: r2, b1, b2, _, h2, _, l2, h => by
    have e : List.replicate b1 (48 : UInt8) = List.replicate (y :: r2 ++ List.replicate b2 48).length 48 := by
      congr 1; simp at h ⊢; omega
    rw [List.nil_append, e, zeros_lt]
    · rfl
    · intro c hc
      rcases List.mem_append.1 hc with hc | hc
      · exact h2 c hc
      · rw [(List.mem_replicate.1 hc).2]; decide
    · obtain ⟨c, hc, hne⟩ := last_ne y r2 l2
      exact ⟨c, List.mem_append_left _ hc, hne⟩
  | x :: r1, [], b1, b2, h1, _, l1, _, h => by
    have e : List.replicate b2 (48 : UInt8) = List.replicate (x :: r1 ++ List.replicate b1 48).length 48 := by
      congr 1; simp at h ⊢; omega
    rw [bytes_flip, List.nil_append, e, zeros_lt]
    · rfl
    · intro c hc
      rcases List.mem_append.1 hc with hc | hc
      · exact h1 c hc
      · rw [(List.mem_replicate.1 hc).2]; decide
    · obtain ⟨c, hc, hne⟩ := last_ne x r1 l1
      exact ⟨c, List.mem_append_left _ hc, hne⟩
  | x :: r1, y :: r2, b1, b2, h1, h2, l1, l2, h => by
    have ih := pad r1 r2 b1 b2 (fun c hc => h1 c (by simp [hc])) (fun c hc => h2 c (by simp [hc])) (last_tail x r1 l1) (last_tail y r2 l2) (by simp at h; omega)
    simp only [List.cons_append, Lib.compareBytes]
    rw [ih]

/-- The number that digits are. -/
def val (l : List UInt8) : Nat := l.foldl (fun v c => 10 * v + (c.toNat - 48)) 0

theorem val_snoc (l : List UInt8) (c : UInt8) : val (l ++ [c]) = 10 * val l + (c.toNat - 48) := by
  unfold val; rw [List.foldl_append]; rfl
theorem val_fold (l : List UInt8) : ∀ v, l.foldl (fun v c => 10 * v + (c.toNat - 48)) v = v * 10 ^ l.length + val l := by
  induction l with
  | nil => intro v; simp [val]
  | cons c r ih =>
    intro v
    unfold val
    rw [List.foldl_cons, List.foldl_cons, ih, ih, List.length_cons, Nat.pow_succ]
    rw [Nat.add_mul, Nat.add_mul, Nat.mul_zero, Nat.zero_mul, Nat.zero_add]
    have : 10 * v * 10 ^ r.length = v * (10 ^ r.length * 10) := by rw [Nat.mul_comm 10 v, Nat.mul_assoc, Nat.mul_comm 10]
    omega
theorem val_cons (c : UInt8) (r : List UInt8) : val (c :: r) = (c.toNat - 48) * 10 ^ r.length + val r := by
  show r.foldl _ (10 * 0 + (c.toNat - 48)) = _
  rw [val_fold]; simp
theorem val_lt (l : List UInt8) (h : ∀ c ∈ l, dig c = true) : val l < 10 ^ l.length := by
  induction l with
  | nil => decide
  | cons c r ih =>
    have hr := ih (fun d hd => h d (by simp [hd]))
    have hc := dig_bd (h c (by simp))
    rw [val_cons, List.length_cons, Nat.pow_succ]
    have : (c.toNat - 48) * 10 ^ r.length ≤ 9 * 10 ^ r.length := Nat.mul_le_mul_right _ (by omega)
    omega
/-- Texts of digits of one length are ordered as their numbers are. -/
theorem val_order : ∀ a b : List UInt8, (∀ c ∈ a, dig c = true) → (∀ c ∈ b, dig c = true) → a.length = b.length → val a < val b → Lib.compareBytes a b = -1
  | [], [], _, _, _, h => by simp [val] at h
  | [], _ :: _, _, _, h, _ => by simp at h
  | _ :: _, [], _, _, h, _ => by simp at h
  | x :: a, y :: b, ha, hb, hl, hv => by
    have hl' : a.length = b.length := by simpa using hl
    have h1 := val_lt a (fun c hc => ha c (by simp [hc]))
    have h2 := val_lt b (fun c hc => hb c (by simp [hc]))
    have hx := dig_bd (ha x (by simp))
    have hy := dig_bd (hb y (by simp))
    rw [val_cons, val_cons, hl'] at hv
    rw [hl'] at h1
    simp only [Lib.compareBytes, UInt8.lt_iff_toNat_lt]
    by_cases e1 : x.toNat < y.toNat
    · rw [if_pos e1]
    · rw [if_neg e1]
      by_cases e2 : y.toNat < x.toNat
      · exfalso
        have : (y.toNat - 48 + 1) * 10 ^ b.length ≤ (x.toNat - 48) * 10 ^ b.length := Nat.mul_le_mul_right _ (by omega)
        rw [Nat.add_mul, Nat.one_mul] at this
        omega
      · rw [if_neg e2]
        have e : x.toNat = y.toNat := by omega
        rw [e] at hv
        exact val_order a b (fun c hc => ha c (by simp [hc])) (fun c hc => hb c (by simp [hc])) hl' (by omega)
theorem val_dec (u : Nat) : val (Lib.decDigits u) = u := by
  induction u using Nat.strongRecOn with
  | ind u ih =>
    rw [Lib.decDigits]
    split
    · rename_i h10
      have e := (dig_ofNat u h10).2
      simp only [val, List.foldl_cons, List.foldl_nil, e]
      omega
    · have e := (dig_ofNat (u % 10) (by omega)).2
      rw [val_snoc, ih (u / 10) (by omega), e]
      omega
theorem dec_len_mono (n : Nat) : ∀ m, m ≤ n → Lib.nDigits m ≤ Lib.nDigits n := by
  induction n using Nat.strongRecOn with
  | ind n ih =>
    intro m hm
    by_cases h : m < 10
    · rw [Lib.nDigits_small h]; exact Lib.nDigits_pos n
    · have hn : ¬ n < 10 := by omega
      rw [Lib.nDigits_big h, Lib.nDigits_big hn]
      have := ih (n / 10) (by omega) (m / 10) (by omega)
      omega

theorem itoa_nat (k : Int) (h : 0 ≤ k) : Lib.itoa k = Lib.decDigits k.toNat := by unfold Lib.itoa; rw [if_neg (by omega)]

theorem dec_bad (u : Nat) : badWhole (Lib.decDigits u) = false := by
  by_cases h : u = 0
  · subst h
    rw [Lib.decDigits_one (by omega)]; decide
  · exact bad_no _ (dec_ne u) (dec_head u h)

theorem parse_dec (u : Nat) : parse (Lib.decDigits u) = parseOf (⟨false, Lib.decDigits u, [], false, []⟩, true) := by
  have hp := prefix_no (Lib.decDigits u) (fun c hc => dig_ne c 45 (head_of_all _ (dec_dig u) c hc) (by decide))
  unfold parse
  rw [split_digits false _ (Lib.decDigits u) [] hp.1 (by rw [List.append_nil]; exact hp.2) (dec_dig u) (dec_bad u) (fun c h => by cases h) (by simp)]
  rfl

theorem core_len (d : List UInt8) : ∃ b, Lib.trimLeftB d 48 = core d ++ List.replicate b 48 := right_eq _

/-- A count above 0: its digits without 0s behind, as many 0s as its exponent. -/
theorem count_pos (u : Nat) (h0 : u ≠ 0) (h : u ≤ 2000000000) : ∃ b : Nat, (parse (Lib.decDigits u)).1 = ⟨false, core (Lib.decDigits u), b⟩ ∧ Lib.decDigits u = core (Lib.decDigits u) ++ List.replicate b 48 ∧ core (Lib.decDigits u) ≠ [] := by
  obtain ⟨b, hb⟩ := core_len (Lib.decDigits u)
  rw [left_id _ (dec_head u h0)] at hb
  have hlen : (Lib.decDigits u).length ≤ 21 := by
    have := Lib.itoa_length_le u (by omega) (by omega)
    rw [itoa_nat _ (by omega)] at this
    simpa using this
  have hl := congrArg List.length hb
  rw [List.length_append, List.length_replicate] at hl
  have hne : core (Lib.decDigits u) ≠ [] := by
    intro e
    rw [e, List.nil_append] at hb
    have h1 := dec_head u h0
    rw [hb] at h1
    cases b with
    | zero => exact dec_ne u (by rw [hb]; rfl)
    | succ n => rw [List.replicate_succ] at h1; exact h1 rfl
  refine ⟨b, ?_, hb, hne⟩
  have hn : normal false (Lib.decDigits u ++ []) (expOf ⟨false, Lib.decDigits u, [], false, []⟩ - ([] : List UInt8).length) = (⟨false, core (Lib.decDigits u), b⟩, true) := by
    have hx : expOf ⟨false, Lib.decDigits u, [], false, []⟩ = 0 := rfl
    have e : (0 : Int) - (([] : List UInt8).length : Int) + (((Lib.decDigits u).length : Int) - ((core (Lib.decDigits u)).length : Int)) = b := by
      simp only [List.length_nil]; omega
    rw [List.append_nil, hx, normal_core, left_id _ (dec_head u h0), e, if_neg (by simpa using hne), if_neg (by omega)]
  rw [parse_dec, parseOf_eq, hn]
  rfl

theorem count_zero : (parse (Lib.decDigits 0)).1 = Num.zero := by
  rw [Lib.decDigits_one (by omega)]; decide

theorem count_next (u : Nat) (h : u ≤ 1000000000) : cmp (parse (Lib.decDigits u)).1 (parse (Lib.decDigits (u + 1))).1 = -1 := by
  obtain ⟨b2, e2, d2, n2⟩ := count_pos (u + 1) (by omega) (by omega)
  by_cases h0 : u = 0
  · subst h0
    rw [count_zero, e2]
    have hs : sign ⟨false, core (Lib.decDigits (0 + 1)), b2⟩ = 1 := by
      unfold sign; rw [if_neg (by simpa using n2)]; rfl
    unfold cmp
    rw [hs]
    rfl
  · obtain ⟨b1, e1, d1, n1⟩ := count_pos u h0 (by omega)
    rw [e1, e2]
    have s1 : sign ⟨false, core (Lib.decDigits u), b1⟩ = 1 := by unfold sign; rw [if_neg (by simpa using n1)]; rfl
    have s2 : sign ⟨false, core (Lib.decDigits (u + 1)), b2⟩ = 1 := by unfold sign; rw [if_neg (by simpa using n2)]; rfl
    have l1 := congrArg List.length d1
    have l2 := congrArg List.length d2
    rw [List.length_append, List.length_replicate] at l1 l2
    have hm := dec_len_mono (u + 1) u (by omega)
    rw [← Lib.decDigits_length, ← Lib.decDigits_length] at hm
    unfold cmp
    rw [s1, s2]
    simp only [(int_zero 1 1).2 rfl, if_true, Bool.false_eq_true, if_false]
    unfold cmpSize
    simp only
    by_cases e : (Lib.decDigits u).length = (Lib.decDigits (u + 1)).length
    · rw [if_pos ((int_zero _ _).2 (by omega))]
      rw [← pad _ _ b1 b2 (fun c hc => dec_dig _ c (core_mem _ c hc)) (fun c hc => dec_dig _ c (core_mem _ c hc)) (core_last _) (core_last _) (by omega), ← d1, ← d2]
      exact val_order _ _ (dec_dig _) (dec_dig _) e (by rw [val_dec, val_dec]; omega)
    · have hlt : Lib.compareInt ((core (Lib.decDigits u)).length + (b1 : Int)) ((core (Lib.decDigits (u + 1))).length + (b2 : Int)) = -1 := by
        unfold Lib.compareInt; rw [if_pos (by omega)]
      rw [hlt]; rfl

theorem count_step (k : Int) (h0 : 0 ≤ k) (h1 : k ≤ 1000000000) : cmp (count k) (count (k + 1)) = -1 := by
  unfold count
  rw [itoa_nat k h0, itoa_nat (k + 1) (by omega), show (k + 1).toNat = k.toNat + 1 from by omega]
  exact count_next k.toNat (by omega)
theorem count_whole (k : Int) (h0 : 0 ≤ k) (h1 : k ≤ 1000000000) : 0 ≤ (count k).exp := by
  unfold count
  rw [itoa_nat k h0]
  by_cases h : k.toNat = 0
  · rw [h, count_zero]; decide
  · obtain ⟨b, e, _⟩ := count_pos k.toNat h (by omega)
    rw [e]; simp

/-- What the law NumBack leans on, shown. -/
theorem laws : Laws :=
  ⟨err_range, fun l _ => parse_may l, parse_text, text_len, cmp_range, cmp_flip, cmp_same, fun a b c ha hb _ h1 h2 => cmp_next a b c ha hb h1 h2, fun _ _ _ => parse_may _, count_step, count_whole⟩

end Go.Proofs.YtbcoakonjgakbaaDoor.Nm
