/- Plain mathematics of layer 5 (show): a value's canonical text; it is read as it was; how long it is. -/
import Derived.Test.YtmdpjhcghdjmmaaNc
namespace Go.Proofs.Ytmdpjhcghdjmmaa.Js

mutual
/-- A value's canonical text. -/
def Vl.shown : Vl → List UInt8
  | .mk k b n s l m => if k = 0 then [110, 117, 108, 108] else if k = 1 then (if b then [116, 114, 117, 101] else [102, 97, 108, 115, 101]) else if k = 2 then Nm.text n else if k = 3 then St.quote s
    else if k = 4 then 91 :: ((shownL l).tail ++ [93]) else 123 :: ((shownM m).tail ++ [125])
/-- Elements' texts, each with a comma ahead. -/
def shownL : List Vl → List UInt8
  | [] => []
  | v :: l => 44 :: (v.shown ++ shownL l)
def shownM : List Mem → List UInt8
  | [] => []
  | p :: m => 44 :: (shownP p ++ shownM m)
def shownP : Mem → List UInt8
  | (k, v) => St.quote k ++ 58 :: v.shown
end

theorem shownL_append (a b : List Vl) : shownL (a ++ b) = shownL a ++ shownL b := by
  induction a with
  | nil => rfl
  | cons v a ih => simp only [List.cons_append, shownL, ih, List.append_assoc]
theorem shownM_append (a b : List Mem) : shownM (a ++ b) = shownM a ++ shownM b := by
  induction a with
  | nil => rfl
  | cons v a ih => simp only [List.cons_append, shownM, ih, List.append_assoc]
theorem shownL_take (l : List Vl) (k : Nat) (h : k < l.length) : shownL (l.take (k + 1)) = shownL (l.take k) ++ 44 :: l[k].shown := by
  rw [List.take_succ_eq_append_getElem h, shownL_append]; simp [shownL]
theorem shownM_take (m : List Mem) (k : Nat) (h : k < m.length) : shownM (m.take (k + 1)) = shownM (m.take k) ++ 44 :: (St.quote m[k].1 ++ 58 :: m[k].2.shown) := by
  rw [List.take_succ_eq_append_getElem h, shownM_append]
  generalize m[k] = p
  obtain ⟨a, b⟩ := p
  simp [shownM, shownP]

end Go.Proofs.Ytmdpjhcghdjmmaa.Js
namespace Go.Proofs.Ytmdpjhcghdjmmaa.Ps
open Js

theorem text_first {n : Nm.Num} (h : mayNum n = true) : ∃ c t, Nm.text n = c :: t ∧ (c = 45 ∨ Nm.dig c = true) := by
  rcases mayNum_May h with rfl | ⟨h0, h1, _⟩
  · exact ⟨48, [], rfl, .inr (by decide)⟩
  · unfold Nm.text
    obtain ⟨neg, dg, ex⟩ := n
    simp only at h0 h1 ⊢
    cases dg with
    | nil => exact absurd rfl h0
    | cons c t =>
      simp only [List.isEmpty_cons, Bool.false_eq_true, if_false]
      cases neg with
      | true => exact ⟨45, _, rfl, .inl rfl⟩
      | false => exact ⟨c, _, rfl, .inr (h1 c (by simp))⟩
theorem text_number {n : Nm.Num} (h : mayNum n = true) : number (Nm.text n) = .ok n [] := by
  have hb := Nm.laws.back n (mayNum_May h)
  have he : Nm.endOf (Nm.text n) = ([], true) := by
    rw [← Nm.split_end]
    cases hq : (Nm.split (Nm.text n)).2 with
    | true => rfl
    | false =>
      unfold Nm.parse Nm.parseOf at hb
      rw [hq] at hb
      simp at hb
  unfold number
  rw [he]
  simp [hb]
theorem quote_text {s : List UInt8} (h : St.text s = true) (x : List UInt8) : qtext (St.quote s ++ x) = .ok s x := by
  have e : St.quote s ++ x = 34 :: (St.qb s ++ 34 :: x) := by simp [St.quote]
  rw [e]
  simp only [qtext, if_pos]
  rw [St.run_quote (St.text_txt h) _ [] 1 x (by simp; omega)]
  simp only [List.nil_append]
  congr 1
  rw [show 1 + (St.qb s).length + 1 = (St.qb s).length + 1 + 1 by omega, List.drop_succ_cons, ← List.drop_drop, List.drop_left]
  rfl

/-- What a value's text begins with. -/
theorem shown_first {v : Vl} (h : v.may = true) : ∃ c t, v.shown = c :: t ∧ blank c = false ∧ c ≠ 93 ∧ c ≠ 125 := by
  obtain ⟨k, b, n, s, l, m⟩ := v
  obtain ⟨h0, h1, _, _, _, _, _, hn, _⟩ := may_own h
  unfold Vl.shown
  split
  · exact ⟨_, _, rfl, by decide, by decide, by decide⟩
  split
  · split
    · exact ⟨_, _, rfl, by decide, by decide, by decide⟩
    · exact ⟨_, _, rfl, by decide, by decide, by decide⟩
  split
  · obtain ⟨c, t, e, hc⟩ := text_first hn
    refine ⟨c, t, e, ?_⟩
    have hb : ∀ c : UInt8, Nm.dig c = true → blank c = false ∧ c ≠ 93 ∧ c ≠ 125 := by
      intro c hd
      have hne : ∀ k : UInt8, Nm.dig k = false → c ≠ k := fun k hk e => by subst e; rw [hd] at hk; cases hk
      refine ⟨?_, hne _ (by decide), hne _ (by decide)⟩
      unfold blank
      simp [hne 32 (by decide), hne 9 (by decide), hne 10 (by decide), hne 13 (by decide)]
    rcases hc with rfl | hc
    · decide
    · exact hb c hc
  split
  · exact ⟨34, _, rfl, by decide, by decide, by decide⟩
  split
  · exact ⟨91, _, rfl, by decide, by decide, by decide⟩
  · exact ⟨123, _, rfl, by decide, by decide, by decide⟩
theorem skip_first {c : UInt8} {t : List UInt8} (h : blank c = false) : skip (c :: t) = c :: t := by
  rw [skip_cons, if_neg (by simp [h])]

/-- What is shown of a value is read as it was. -/
def Reads (v : Vl) : Prop := ∀ f d x, v.may = true → v.depth + d ≤ 32 → Stop x → 3 * (v.shown ++ x).length + 1 ≤ f → value f d (v.shown ++ x) = .ok v (skip x)

theorem stop_comma (x : List UInt8) : Stop (44 :: x) := by intro c hc; cases hc; decide
theorem stop_end (x : List UInt8) : Stop (93 :: x) := by intro c hc; cases hc; decide
theorem stop_shut (x : List UInt8) : Stop (125 :: x) := by intro c hc; cases hc; decide

theorem reads_elems : ∀ (l : List Vl) (v : Vl) (f d : Nat) (x : List UInt8) (acc : List Vl), (∀ w ∈ v :: l, Reads w ∧ w.may = true ∧ w.depth + d ≤ 32) → 3 * (v.shown ++ (shownL l ++ 93 :: x)).length + 2 ≤ f →
    elems f d (v.shown ++ (shownL l ++ 93 :: x)) acc = .ok (mkA (acc ++ v :: l)) x
  | [], v, 0, _, _, _, _, hf => by omega
  | w :: l, v, 0, _, _, _, _, hf => by omega
  | [], v, f + 1, d, x, acc, h, hf => by
    obtain ⟨h1, h2, h3⟩ := h v (by simp)
    unfold elems
    simp only [shownL, List.nil_append] at hf ⊢
    rw [h1 f d (93 :: x) h2 h3 (stop_end x) (by omega), show skip (93 :: x) = 93 :: x from rfl]
    rfl
  | w :: l, v, f + 1, d, x, acc, h, hf => by
    obtain ⟨h1, h2, h3⟩ := h v (by simp)
    unfold elems
    simp only [shownL, List.cons_append, List.append_assoc] at hf ⊢
    rw [h1 f d (44 :: (w.shown ++ (shownL l ++ 93 :: x))) h2 h3 (stop_comma _) (by omega), show skip (44 :: (w.shown ++ (shownL l ++ 93 :: x))) = 44 :: (w.shown ++ (shownL l ++ 93 :: x)) from rfl]
    simp only [if_true]
    rw [reads_elems l w f d x (acc ++ [v]) (fun w' hw => h w' (by simp at hw ⊢; exact .inr hw)) (by simp only [List.length_append, List.length_cons] at hf ⊢; omega), List.append_assoc]
    rfl

theorem ins_last {acc : List Mem} {key : List UInt8} {v : Vl} (h : ∀ p ∈ acc, Lib.compareBytes p.1 key = -1) : ins acc key v = acc ++ [(key, v)] ∧ find acc key = none := by
  have h1 : acc.takeWhile (less key) = acc ∧ acc.dropWhile (less key) = [] := by
    induction acc with
    | nil => exact ⟨rfl, rfl⟩
    | cons p acc ih =>
      have hp : less key p = true := by simp [less, h p (by simp)]
      obtain ⟨i1, i2⟩ := ih (fun q hq => h q (by simp [hq]))
      rw [List.takeWhile_cons_of_pos hp, List.dropWhile_cons_of_pos hp, i1, i2]
      exact ⟨rfl, rfl⟩
  refine ⟨by unfold ins; rw [h1.1, h1.2], find_none fun p hp e => ?_⟩
  have := h p hp
  rw [e, Nm.bytes_self] at this
  cases this
theorem reads_mems : ∀ (l : List Mem) (p : Mem) (f d : Nat) (x : List UInt8) (acc : List Mem), (∀ w ∈ p :: l, Reads w.2 ∧ w.2.may = true ∧ w.2.depth + d ≤ 32 ∧ St.text w.1 = true) → rises ((acc ++ p :: l).map (·.1)) = true →
    3 * (shownP p ++ (shownM l ++ 125 :: x)).length + 2 ≤ f → mems f d (shownP p ++ (shownM l ++ 125 :: x)) acc = .ok (mkO (acc ++ p :: l)) x
  | [], p, 0, _, _, _, _, _, hf => by omega
  | q :: l, p, 0, _, _, _, _, _, hf => by omega
  | l, (key, v), f + 1, d, x, acc, h, hr, hf => by
    obtain ⟨h1, h2, h3, h4⟩ := h (key, v) (by simp)
    simp only at h1 h2 h3 h4
    have hlt : ∀ q ∈ acc, Lib.compareBytes q.1 key = -1 := by
      rw [rises_iff, List.map_append, List.pairwise_append] at hr
      intro q hq
      exact hr.2.2 q.1 (List.mem_map_of_mem hq) key (by simp)
    obtain ⟨i1, i2⟩ := ins_last (v := v) hlt
    unfold mems
    have e1 : shownP (key, v) ++ (shownM l ++ 125 :: x) = St.quote key ++ 58 :: (v.shown ++ (shownM l ++ 125 :: x)) := by simp [shownP]
    rw [e1] at hf ⊢
    have e2 : skip (St.quote key ++ 58 :: (v.shown ++ (shownM l ++ 125 :: x))) = St.quote key ++ 58 :: (v.shown ++ (shownM l ++ 125 :: x)) := skip_first (c := 34) (by decide)
    rw [e2, quote_text h4]
    simp only
    rw [i2, if_neg (by simp), show skip (58 :: (v.shown ++ (shownM l ++ 125 :: x))) = 58 :: (v.shown ++ (shownM l ++ 125 :: x)) from rfl]
    simp only [if_true]
    simp only [List.length_append, List.length_cons] at hf
    cases l with
    | nil =>
      simp only [shownM, List.nil_append, List.length_nil] at hf ⊢
      rw [h1 f d (125 :: x) h2 h3 (stop_shut x) (by simp only [List.length_append, List.length_cons]; omega), show skip (125 :: x) = 125 :: x from rfl]
      simp only [if_true]
      rw [if_neg (by decide), i1]
    | cons q l =>
      simp only [shownM, List.cons_append, List.append_assoc, List.length_append, List.length_cons] at hf ⊢
      rw [h1 f d (44 :: (shownP q ++ (shownM l ++ 125 :: x))) h2 h3 (stop_comma _) (by simp only [List.length_append, List.length_cons]; omega), show skip (44 :: (shownP q ++ (shownM l ++ 125 :: x))) = 44 :: (shownP q ++ (shownM l ++ 125 :: x)) from rfl]
      simp only [if_true]
      rw [i1, reads_mems l q f d x (acc ++ [(key, v)]) (fun w hw => h w (by simp at hw ⊢; exact .inr hw)) (by simpa using hr) (by simp only [List.length_append, List.length_cons]; omega), List.append_assoc]
      rfl

theorem reads_all (v : Vl) : Reads v := by
  induction v using Vl.ind with
  | h k b n s l m hl hm =>
    intro f d x hmay hdep hx hf
    obtain ⟨h0, h1, k1, k2, k3, k4, k5, hn, hs, hL, hM, hr⟩ := may_own hmay
    obtain ⟨c, t, e, hb, _, _⟩ := shown_first hmay
    obtain ⟨f, rfl⟩ : ∃ g, f = g + 1 := ⟨f - 1, by omega⟩
    have hsk : skip (Vl.shown (.mk k b n s l m) ++ x) = Vl.shown (.mk k b n s l m) ++ x := by rw [e]; exact skip_first hb
    have hk : k = 0 ∨ k = 1 ∨ k = 2 ∨ k = 3 ∨ k = 4 ∨ k = 5 := by omega
    unfold value
    rw [hsk]
    clear hsk e hb
    rcases hk with rfl | rfl | rfl | rfl | rfl | rfl
    · obtain rfl := k1 (by decide)
      obtain rfl := k2 (by decide)
      obtain rfl := k3 (by decide)
      obtain rfl := k4 (by decide)
      obtain rfl := k5 (by decide)
      show (if (110 : UInt8) = 123 then _ else if (110 : UInt8) = 91 then _ else single 110 (117 :: 108 :: 108 :: x)).trail = _
      rw [if_neg (by decide), if_neg (by decide)]
      simp [single, lit, R.map, R.trail]
    · obtain rfl := k2 (by decide)
      obtain rfl := k3 (by decide)
      obtain rfl := k4 (by decide)
      obtain rfl := k5 (by decide)
      cases b with
      | true =>
        show (if (116 : UInt8) = 123 then _ else if (116 : UInt8) = 91 then _ else single 116 (114 :: 117 :: 101 :: x)).trail = _
        rw [if_neg (by decide), if_neg (by decide)]
        simp [single, lit, R.map, R.trail]
      | false =>
        show (if (102 : UInt8) = 123 then _ else if (102 : UInt8) = 91 then _ else single 102 (97 :: 108 :: 115 :: 101 :: x)).trail = _
        rw [if_neg (by decide), if_neg (by decide)]
        simp [single, lit, R.map, R.trail]
    · obtain rfl := k1 (by decide)
      obtain rfl := k3 (by decide)
      obtain rfl := k4 (by decide)
      obtain rfl := k5 (by decide)
      have hnum := number_app hx (text_number hn)
      obtain ⟨c, t, e, hc⟩ := text_first hn
      have e2 : Vl.shown (.mk 2 false n [] [] []) = Nm.text n := by unfold Vl.shown; rfl
      rw [e2]
      rw [e] at hnum ⊢
      simp only [List.cons_append, List.nil_append] at hnum ⊢
      have hne : ∀ k : UInt8, Nm.dig k = false → k ≠ 45 → ¬ c = k := fun k h1 h2 e => by
        subst e
        rcases hc with h | h
        · exact h2 h
        · rw [h1] at h; cases h
      rw [if_neg (hne 123 (by decide) (by decide)), if_neg (hne 91 (by decide) (by decide))]
      unfold single
      rw [if_neg (hne 34 (by decide) (by decide)), if_neg (hne 110 (by decide) (by decide)), if_neg (hne 116 (by decide) (by decide)), if_neg (hne 102 (by decide) (by decide)), if_pos hc, hnum]
      rfl
    · obtain rfl := k1 (by decide)
      obtain rfl := k2 (by decide)
      obtain rfl := k4 (by decide)
      obtain rfl := k5 (by decide)
      have e2 : Vl.shown (.mk 3 false Nm.Num.zero s [] []) = St.quote s := by unfold Vl.shown; rfl
      have hq := quote_text hs x
      rw [e2]
      have e3 : St.quote s ++ x = 34 :: (St.qb s ++ [34] ++ x) := by simp [St.quote]
      rw [e3] at hq ⊢
      simp only
      rw [if_neg (by decide), if_neg (by decide)]
      unfold single
      rw [if_pos rfl, hq]
      rfl
    · obtain rfl := k1 (by decide)
      obtain rfl := k2 (by decide)
      obtain rfl := k3 (by decide)
      obtain rfl := k5 (by decide)
      have e2 : Vl.shown (.mk 4 false Nm.Num.zero [] l []) = 91 :: ((shownL l).tail ++ [93]) := by unfold Vl.shown; rfl
      rw [e2] at hf ⊢
      simp only [List.cons_append, List.append_assoc, List.nil_append]
      rw [if_neg (by decide)]
      simp only [if_true]
      obtain ⟨f, rfl⟩ : ∃ g, f = g + 1 := ⟨f - 1, by simp only [List.length_append, List.length_cons] at hf; omega⟩
      have hd : depthL l + 1 + d ≤ 32 := by
        simp only [Vl.depth, depthM] at hdep
        rw [if_pos (by decide)] at hdep
        omega
      unfold arr
      rw [if_neg (by omega)]
      cases l with
      | nil => rfl
      | cons v l =>
        simp only [shownL, List.tail_cons, List.cons_append, List.append_assoc, List.nil_append, List.length_cons, List.length_append] at hf ⊢
        obtain ⟨c, t, e, hb, hc1, _⟩ := shown_first ((mayL_iff _).1 hL v (by simp))
        have hsk : skip (v.shown ++ (shownL l ++ 93 :: x)) = v.shown ++ (shownL l ++ 93 :: x) := by rw [e]; exact skip_first hb
        rw [hsk, if_neg (by rw [e]; simpa using hc1)]
        rw [reads_elems l v f (d + 1) x [] (fun w hw => ⟨hl w hw, (mayL_iff _).1 hL w hw, by have := depthL_mem hw; omega⟩) (by simp only [List.length_append, List.length_cons]; omega)]
        rfl
    · obtain rfl := k1 (by decide)
      obtain rfl := k2 (by decide)
      obtain rfl := k3 (by decide)
      obtain rfl := k4 (by decide)
      have e2 : Vl.shown (.mk 5 false Nm.Num.zero [] [] m) = 123 :: ((shownM m).tail ++ [125]) := by unfold Vl.shown; rfl
      rw [e2] at hf ⊢
      simp only [List.cons_append, List.append_assoc, List.nil_append, if_true]
      obtain ⟨f, rfl⟩ : ∃ g, f = g + 1 := ⟨f - 1, by simp only [List.length_append, List.length_cons] at hf; omega⟩
      have hd : depthM m + 1 + d ≤ 32 := by
        simp only [Vl.depth, depthL] at hdep
        rw [if_pos (by decide)] at hdep
        omega
      unfold obj
      rw [if_neg (by omega)]
      cases m with
      | nil => rfl
      | cons p m =>
        obtain ⟨key, v⟩ := p
        simp only [shownM, List.tail_cons, List.cons_append, List.append_assoc, List.nil_append, List.length_cons, List.length_append] at hf ⊢
        have hsk : skip (shownP (key, v) ++ (shownM m ++ 125 :: x)) = shownP (key, v) ++ (shownM m ++ 125 :: x) := skip_first (c := 34) (by decide)
        rw [hsk, if_neg (by simp [shownP, St.quote])]
        rw [reads_mems m (key, v) f (d + 1) x [] (fun w hw => ⟨hm w hw, ((mayM_iff _).1 hM w hw).2, by have := depthM_mem hw; omega, ((mayM_iff _).1 hM w hw).1⟩) (by simpa using hr) (by simp only [List.length_append, List.length_cons]; omega)]
        rfl

/-- What is shown is parsed as it was. -/
theorem parse_shown {v : Vl} (h : v.may = true) (hd : v.depth ≤ 32) (hl : v.shown.length ≤ 20000) : parse v.shown = .ok v [] := by
  rw [parse_fuel hl _ (Nat.le_refl _)]
  have := reads_all v (3 * v.shown.length + 1) 0 [] h (by omega) (by intro c hc; cases hc) (by simp)
  rw [List.append_nil] at this
  rw [this]; rfl

/-! How long a value's text is. -/
theorem dec_short (m : Nat) (h : m ≤ 1000) : (Lib.decDigits m).length ≤ 4 := by
  rw [Lib.decDigits_eq, List.length_map, List.length_range]
  have := Nm.dec_len_mono 1000 m h
  have e : Lib.nDigits 1000 = 4 := Lib.nDigits_unique 3 1000 (by decide) (by decide)
  omega
theorem itoa_short (x : Int) (h1 : -1000 ≤ x) (h2 : x ≤ 1000) : (Lib.itoa x).length ≤ 5 := by
  unfold Lib.itoa
  split
  · have := dec_short x.natAbs (by omega)
    simp only [List.length_cons]; omega
  · have := dec_short x.toNat (by omega)
    omega
theorem qc_le (c : UInt8) : (St.qc c).length ≤ 6 := by
  unfold St.qc
  repeat' split
  all_goals simp
theorem encode_qb (r : Nat) (h : St.scalar r) : (St.qb (Lib.encodeRune (r : Int))).length ≤ 6 := by
  by_cases hr : r < 128
  · have hl := St.encode_len r
    have h2 := (St.utf8_encode r h []).1
    rw [List.append_nil] at h2
    have h1 : (Lib.encodeRune (r : Int)).length = 1 := by
      by_cases h0 : (Lib.encodeRune (r : Int)).length = 0
      · rw [List.length_eq_zero_iff] at h0
        have := (St.utf8_encode r h [0]).1
        rw [h0] at this
        exact absurd this (by decide)
      · have h3 := St.utf8_cases (Lib.encodeRune (r : Int)) (by omega)
        have h4 := (St.utf8_encode r h []).2
        rw [List.append_nil] at h4
        omega
    generalize Lib.encodeRune (r : Int) = e at h1
    match e, h1 with
    | [c], _ => simpa [St.qb] using qc_le c
  · have h4 := St.utf8_encode r h []
    rw [List.append_nil] at h4
    have hl := St.encode_len r
    have hne : (Lib.encodeRune (r : Int)).length ≠ 0 := fun h0 => by
      rw [List.length_eq_zero_iff] at h0
      have := (St.utf8_encode r h [0]).1
      rw [h0] at this
      exact absurd this (by decide)
    have hc := St.utf8_cases (Lib.encodeRune (r : Int)) (by omega)
    have hh := St.take_high (Lib.encodeRune (r : Int)) (by omega) (by omega)
    rw [h4.1, List.take_length] at hh
    rw [St.qb_high _ hh]
    omega
theorem run_qb : ∀ (f : Nat) (l out : List UInt8) (i : Nat) {o : List UInt8} {p : Nat}, St.run f l out i = .ok o p → (St.qb o).length + 6 * i + 6 ≤ (St.qb out).length + 6 * p
  | 0, l, out, i, o, p, h => by cases h
  | f + 1, [], out, i, o, p, h => by cases h
  | f + 1, c :: l, out, i, o, p, h => by
    by_cases hc : c = 34
    · subst hc
      rw [St.run_stop] at h
      injection h with h1 h2
      subst h1 h2; omega
    · cases hk : St.chr (c :: l) with
      | bad k e => rw [St.run_bad f out i hc hk] at h; cases h
      | ok r n =>
        obtain ⟨k1, k2, k3, k4⟩ := St.chr_ok hk
        rw [St.run_more f out i hc hk] at h
        have ih := run_qb f _ _ _ h
        have := encode_qb r k3
        rw [St.qb_append, List.length_append] at ih
        omega
theorem qtext_room {t o u : List UInt8} (h : qtext t = .ok o u) : (St.quote o).length + 6 * u.length ≤ 6 * t.length := by
  cases t with
  | nil => cases h
  | cons c v =>
    by_cases hc : c = 34
    · subst hc
      simp only [qtext, if_pos] at h
      cases hr : St.run (v.length + 1) v [] 1 with
      | bad k p => rw [hr] at h; cases h
      | ok o' p =>
        rw [hr] at h
        injection h with h1 h2
        subst h1 h2
        have h3 := run_qb _ _ _ _ hr
        have h4 := St.run_past _ _ _ _ hr
        rw [St.quote_length, List.length_drop]
        simp only [St.qb, List.flatMap_nil, List.length_nil, List.length_cons] at h3 ⊢
        omega
    · simp only [qtext, if_neg hc] at h; cases h
theorem core_le (d : List UInt8) : (Nm.core d).length ≤ d.length := by
  obtain ⟨a, h1⟩ := Nm.left_eq d
  obtain ⟨b, h2⟩ := Nm.right_eq (Lib.trimLeftB d 48)
  have h3 := congrArg List.length h1
  have h4 := congrArg List.length h2
  rw [List.length_append] at h3 h4
  unfold Nm.core
  omega
theorem parse_digits {l : List UInt8} : (Nm.parse l).1.digits.length ≤ l.length := by
  have hs := Nm.split_sound l
  unfold Nm.parse Nm.parseOf
  split
  · simp only
    split
    · rw [Nm.normal_core]
      split
      · simp [Nm.Num.zero]
      · split
        · simp [Nm.Num.zero]
        · have := core_le ((Nm.split l).1.whole ++ (Nm.split l).1.frac)
          have h2 := hs.2.2
          rw [List.length_append] at this
          simp only
          omega
    · simp [Nm.Num.zero]
  · simp [Nm.Num.zero]
theorem text_room {n : Nm.Num} (h : mayNum n = true) : (Nm.text n).length ≤ n.digits.length + 9 := by
  rcases mayNum_May h with rfl | ⟨_, _, _, _, _, h5, h6⟩
  · decide
  · have hi := Lib.itoa_length_le n.exp (by omega) (by omega)
    unfold Nm.text
    split
    · simp
    · simp only [List.length_append]
      have h1 : (if n.neg = true then [45] else ([] : List UInt8)).length ≤ 1 := by split <;> simp
      have h2 : (if n.exp = 0 then [] else (101 : UInt8) :: Lib.itoa n.exp).length ≤ 7 := by
        split
        · simp
        · have := itoa_short n.exp h5 h6
          simp only [List.length_cons]; omega
      omega
theorem number_room {t : List UInt8} {n : Nm.Num} {u : List UInt8} (h : number t = .ok n u) : (Nm.text n).length + 10 * u.length ≤ 10 * t.length := by
  obtain ⟨h1, h2, h3, h4, h5, h6⟩ := number_ok h
  have h7 := parse_digits (l := t.take (t.length - u.length))
  rw [h6, List.length_take] at h7
  have h8 := text_room h1
  simp only at h7
  omega
def Room (n : Nat) (r : R Vl) : Prop := ∀ v u, r = .ok v u → v.shown.length + 10 * u.length ≤ n
theorem Room.bad (n k l : Nat) : Room n (.bad k l) := fun _ _ e => by cases e
theorem Room.ok {n : Nat} {v : Vl} {u : List UInt8} (h : v.shown.length + 10 * u.length ≤ n) : Room n (.ok v u) := fun _ _ e => by cases e; exact h
theorem Room.mono {n n' : Nat} {r : R Vl} (h : Room n r) (hn : n ≤ n') : Room n' r := fun v u e => Nat.le_trans (h v u e) hn
theorem Room.trail {n : Nat} {r : R Vl} (h : Room n r) : Room n r.trail := by
  cases r with
  | ok v t => have := h _ _ rfl; have hs := skip_len t; exact .ok (by omega)
  | bad c l => exact .bad _ _ _
theorem single_room (c : UInt8) (u : List UInt8) : Room (10 * (c :: u).length) (single c u) := by
  intro v t h
  have go : ∀ {α : Type} {g : α → Vl} {r : R α}, r.map g = .ok v t → ∃ a, r = .ok a t ∧ v = g a := by
    intro α g r e
    cases r with
    | bad k l => cases e
    | ok a t' => injection e with e1 e2; subst e1 e2; exact ⟨a, rfl, rfl⟩
  unfold single at h
  split at h
  · obtain ⟨o, e, rfl⟩ := go h
    have := qtext_room e
    show (St.quote o).length + _ ≤ _
    omega
  split at h
  · obtain ⟨o, e, rfl⟩ := go h
    have := congrArg List.length (lit_ok e)
    simp only [List.length_append, List.length_cons, List.length_nil] at this ⊢
    show 4 + _ ≤ _
    omega
  split at h
  · obtain ⟨o, e, rfl⟩ := go h
    have := congrArg List.length (lit_ok e)
    simp only [List.length_append, List.length_cons, List.length_nil] at this ⊢
    show 4 + _ ≤ _
    omega
  split at h
  · obtain ⟨o, e, rfl⟩ := go h
    have := congrArg List.length (lit_ok e)
    simp only [List.length_append, List.length_cons, List.length_nil] at this ⊢
    show 5 + _ ≤ _
    omega
  split at h
  · obtain ⟨o, e, rfl⟩ := go h
    exact number_room e
  · cases h

theorem shownA_len (l : List Vl) : (mkA l).shown.length ≤ (shownL l).length + 2 := by
  show (91 :: ((shownL l).tail ++ [93])).length ≤ _
  simp only [List.length_cons, List.length_append, List.length_tail, List.length_nil]; omega
theorem shownO_len (m : List Mem) : (mkO m).shown.length ≤ (shownM m).length + 2 := by
  show (123 :: ((shownM m).tail ++ [125])).length ≤ _
  simp only [List.length_cons, List.length_append, List.length_tail, List.length_nil]; omega
theorem shownM_ins (m : List Mem) (key : List UInt8) (v : Vl) : (shownM (ins m key v)).length = (shownM m).length + (St.quote key).length + v.shown.length + 2 := by
  have hm : m.takeWhile (less key) ++ m.dropWhile (less key) = m := List.takeWhile_append_dropWhile
  have : (shownM m).length = (shownM (m.takeWhile (less key))).length + (shownM (m.dropWhile (less key))).length := by rw [← List.length_append, ← shownM_append, hm]
  unfold ins
  rw [shownM_append, this]
  simp only [shownM, shownP, List.length_append, List.length_cons]; omega
theorem room_all (f : Nat) : (∀ d t, Room (10 * t.length) (value f d t)) ∧ (∀ d u, Room (10 * u.length + 10) (arr f d u)) ∧ (∀ d t acc, Room (10 * t.length + (shownL acc).length + 2) (elems f d t acc)) ∧
    (∀ d u, Room (10 * u.length + 10) (obj f d u)) ∧ (∀ d t acc, Room (10 * t.length + (shownM acc).length + 2) (mems f d t acc)) := by
  induction f with
  | zero => exact ⟨fun _ _ => by unfold value; exact .bad _ _ _, fun _ _ => by unfold arr; exact .bad _ _ _, fun _ _ _ => by unfold elems; exact .bad _ _ _, fun _ _ => by unfold obj; exact .bad _ _ _, fun _ _ _ => by unfold mems; exact .bad _ _ _⟩
  | succ f ih =>
    obtain ⟨iv, ia, ie, io, im⟩ := ih
    refine ⟨fun d t => ?_, fun d u => ?_, fun d t acc => ?_, fun d u => ?_, fun d t acc => ?_⟩
    · unfold value
      have hs := skip_len t
      apply Room.trail
      cases h : skip t with
      | nil => exact .bad _ _ _
      | cons c u =>
        rw [h] at hs
        simp only [List.length_cons] at hs
        simp only
        split
        · exact (io d u).mono (by omega)
        split
        · exact (ia d u).mono (by omega)
        · exact (single_room c u).mono (by simp only [List.length_cons]; omega)
    · unfold arr
      have hs := skip_len u
      split
      · exact .bad _ _ _
      split
      · refine .ok ?_
        show 2 + _ ≤ _
        rw [List.length_tail]; omega
      · exact (ie (d + 1) (skip u) []).mono (by simp only [shownL, List.length_nil]; omega)
    · unfold elems
      have hv := iv d t
      cases h : value f d t with
      | bad c l => exact .bad _ _ _
      | ok v u =>
        have h1 := hv _ _ h
        cases u with
        | nil => exact .bad _ _ _
        | cons c u =>
          simp only [List.length_cons] at h1
          have e : (shownL (acc ++ [v])).length = (shownL acc).length + 1 + v.shown.length := by rw [shownL_append]; simp [shownL]; omega
          simp only
          split
          · exact (ie d u (acc ++ [v])).mono (by omega)
          split
          · have := shownA_len (acc ++ [v])
            exact .ok (by omega)
          · exact .bad _ _ _
    · unfold obj
      have hs := skip_len u
      split
      · exact .bad _ _ _
      split
      · refine .ok ?_
        show 2 + _ ≤ _
        rw [List.length_tail]; omega
      · exact (im (d + 1) (skip u) []).mono (by simp only [shownM, List.length_nil]; omega)
    · unfold mems
      have hs := skip_len t
      cases hq : qtext (skip t) with
      | bad c l => exact .bad _ _ _
      | ok key t2 =>
        have hq2 := qtext_room hq
        have hq3 := (qtext_ok hq).1
        have hs2 := skip_len t2
        simp only
        split
        · exact .bad _ _ _
        cases h3 : skip t2 with
        | nil => exact .bad _ _ _
        | cons c t4 =>
          rw [h3] at hs2
          simp only [List.length_cons] at hs2
          simp only
          split
          · have hv := iv d t4
            cases h : value f d t4 with
            | bad c l => exact .bad _ _ _
            | ok v u =>
              have h1 := hv _ _ h
              cases u with
              | nil => exact .bad _ _ _
              | cons c u =>
                simp only [List.length_cons] at h1
                have e := shownM_ins acc key v
                simp only
                split
                · exact (im d u _).mono (by omega)
                split
                · have := shownO_len (ins acc key v)
                  exact .ok (by omega)
                · exact .bad _ _ _
          · exact .bad _ _ _

/-- The text of a value that was read isn't much longer than what it was read from. -/
theorem parse_room {s : List UInt8} {v : Vl} {u : List UInt8} (h : parse s = .ok v u) : v.shown.length ≤ 10 * s.length := by
  have h1 := (parse_value h (3 * s.length + 1) (Nat.le_refl _)).1
  have := (room_all (3 * s.length + 1)).1 0 s _ _ h1
  simpa using this

end Go.Proofs.Ytmdpjhcghdjmmaa.Ps

