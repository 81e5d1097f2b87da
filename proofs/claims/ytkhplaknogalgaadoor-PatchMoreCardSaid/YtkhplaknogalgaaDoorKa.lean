/- Ka: Ka Kb Kc, in one text. -/
import Derived.Test.YtkhplaknogalgaaDoorPp
import Derived.Lib.ReplaceLaws
import Derived.Lib.SplitLaws
import Derived.Test.YtkhplaknogalgaaDoorPq
import Derived.Test.YtkhplaknogalgaaDoorSf
import Derived.Lib.ConvBytes
import Derived.Test.YtkhplaknogalgaaDoorShelf
import Derived.Lib.Hide
import Derived.Test.YtkhplaknogalgaaDoorMk
/- Ka: Ka Kd, in one text. -/
/- Plain mathematics of layer 6 (ptr), the program's way: what Split and ReplaceAll of the library come to on a pointer's text; the first ~ that stands for nothing; a name as a place. -/
namespace Go.Proofs.YtkhplaknogalgaaDoor.Pt
open Go.Lib (replaceAll replace replaceNum replaceK replaceK_hit count_miss count_hit count_one splitK index_ge)

/-! All instances of one text replaced. -/
theorem rep_nil {old new : List UInt8} (h : old ≠ []) (hn : old ≠ new) : replaceAll [] old new = [] := by
  have hi : Lib.index [] old = -1 := by cases old with
    | nil => exact absurd rfl h
    | cons => rfl
  have hb : (old == new) = false := by simpa using hn
  unfold replaceAll replace
  rw [hb, if_neg (by decide)]
  unfold replaceNum
  rw [if_pos (.inl (by decide)), count_miss hi]; rfl
theorem rep_all {s old new : List UInt8} (hn : old ≠ new) : replaceAll s old new = replaceK old new (Lib.count s old) s := by
  have hb : (old == new) = false := by simpa using hn
  unfold replaceAll replace
  rw [hb, if_neg (by decide)]
  unfold replaceNum
  rw [if_pos (.inl (by decide))]
theorem rep_hit {s old new : List UInt8} (h : old ≠ []) (hn : old ≠ new) : replaceAll (old ++ s) old new = new ++ replaceAll s old new := by
  have hi : Lib.index (old ++ s) old = ((0 : Nat) : Int) := by
    cases old with
    | nil => exact absurd rfl h
    | cons b l =>
      rw [List.cons_append, Lib.index, ← List.cons_append, if_pos (by rw [List.isPrefixOf_iff_prefix]; exact List.prefix_append _ _)]; rfl
  rw [rep_all hn, rep_all hn, count_hit h hi, Nat.add_comm, replaceK_hit _ _ _ _ _ hi]
  simp
theorem rep_miss {c : UInt8} {s old new : List UInt8} (h : old ≠ []) (hn : old ≠ new) (hp : old.isPrefixOf (c :: s) = false) : replaceAll (c :: s) old new = c :: replaceAll s old new := by
  rw [rep_all hn, rep_all hn]
  have hx : Lib.index (c :: s) old = if Lib.index s old == -1 then -1 else Lib.index s old + 1 := by rw [Lib.index, hp]; rfl
  have hge := index_ge s old
  by_cases hm : Lib.index s old = -1
  · have h1 : Lib.index (c :: s) old = -1 := by rw [hx, hm]; rfl
    rw [count_miss hm, count_miss h1]; rfl
  · obtain ⟨i, hi⟩ : ∃ i : Nat, Lib.index s old = i := ⟨(Lib.index s old).toNat, by omega⟩
    have h1 : Lib.index (c :: s) old = ((i + 1 : Nat) : Int) := by
      rw [hx, if_neg (by simpa using hm), hi]; rfl
    rw [count_hit h hi, count_hit h h1, Nat.add_comm 1, Nat.add_comm 1, replaceK_hit _ _ _ _ _ hi, replaceK_hit _ _ _ _ _ h1]
    rw [show i + 1 + old.length = (i + old.length) + 1 by omega]
    simp
theorem pre_two {a b c d : UInt8} {s : List UInt8} : ([a, b] : List UInt8).isPrefixOf (c :: d :: s) = (a == c && b == d) := by
  simp [List.isPrefixOf]

/-! Names: what escaped and plain come to. -/
theorem rep_one {a : UInt8} {new : List UInt8} (hn : [a] ≠ new) (s : List UInt8) : replaceAll s [a] new = s.flatMap fun c => if c = a then new else [c] := by
  induction s with
  | nil => exact rep_nil (by simp) hn
  | cons c s ih =>
    by_cases h : c = a
    · subst h
      rw [show c :: s = [c] ++ s from rfl, rep_hit (by simp) hn, ih]
      simp
    · rw [rep_miss (by simp) hn (by simp [List.isPrefixOf, Ne.symm h]), ih]
      simp [h]
/-- What escaped tells. -/
theorem escaped_eq (n : List UInt8) : replaceAll (replaceAll n [126] [126, 48]) [47] [126, 49] = name n := by
  rw [rep_one (by decide), rep_one (by decide)]
  induction n with
  | nil => rfl
  | cons c n ih =>
    have e : name (c :: n) = esc c ++ name n := by simp [name]
    rw [e, ← ih, List.flatMap_cons, List.flatMap_append]
    congr 1
    unfold esc
    by_cases h1 : c = 126
    · subst h1; decide
    · rw [if_neg h1, if_neg h1]
      by_cases h2 : c = 47
      · subst h2; decide
      · rw [if_neg h2]; simp [h2]
theorem count_esc (n : List UInt8) : Lib.count n [126] ≤ n.length := by rw [count_one]; exact List.count_le_length
theorem esc1_len (n : List UInt8) : (replaceAll n [126] [126, 48]).length ≤ 2 * n.length := by
  rw [rep_one (by decide)]
  induction n with
  | nil => simp
  | cons c n ih =>
    rw [List.flatMap_cons, List.length_append, List.length_cons]
    have h2 : (if c = 126 then [126, 48] else [c] : List UInt8).length ≤ 2 := by split <;> simp
    omega

theorem pre_no {a b c : UInt8} {s : List UInt8} (h : c ≠ a) : ([a, b] : List UInt8).isPrefixOf (c :: s) = false := by
  simp [List.isPrefixOf, Ne.symm h]
/-- The first of plain's two. -/
def half : List UInt8 → List UInt8
  | [] => []
  | c :: n => (if c = 126 then [126, 48] else [c]) ++ half n
theorem half_eq (n : List UInt8) : replaceAll (name n) [126, 49] [47] = half n := by
  induction n with
  | nil => exact rep_nil (by simp) (by decide)
  | cons c n ih =>
    have e : name (c :: n) = esc c ++ name n := by simp [name]
    rw [e, half, ← ih]
    unfold esc
    by_cases h1 : c = 126
    · subst h1
      rw [if_pos rfl, if_pos rfl]
      show replaceAll (126 :: 48 :: name n) _ _ = 126 :: 48 :: _
      rw [rep_miss (by simp) (by decide) (by rw [pre_two]; decide), rep_miss (by simp) (by decide) (pre_no (by decide))]; rfl
    · rw [if_neg h1, if_neg h1]
      by_cases h2 : c = 47
      · subst h2
        rw [if_pos rfl, rep_hit (by simp) (by decide)]
      · rw [if_neg h2]
        show replaceAll (c :: name n) _ _ = c :: _
        rw [rep_miss (by simp) (by decide) (pre_no h1)]; rfl
theorem half_len (n : List UInt8) : (half n).length ≤ 2 * n.length := by
  induction n with
  | nil => simp [half]
  | cons c n ih => rw [half, List.length_append, List.length_cons]; split <;> simp <;> omega
theorem whole_eq (n : List UInt8) : replaceAll (half n) [126, 48] [126] = n := by
  induction n with
  | nil => exact rep_nil (by simp) (by decide)
  | cons c n ih =>
    rw [half]
    by_cases h1 : c = 126
    · subst h1
      rw [if_pos rfl, rep_hit (by simp) (by decide), ih]; rfl
    · rw [if_neg h1]
      show replaceAll (c :: half n) _ _ = _
      rw [rep_miss (by simp) (by decide) (pre_no h1), ih]
/-- What plain tells. -/
theorem plain_eq (n : List UInt8) : replaceAll (replaceAll (name n) [126, 49] [47]) [126, 48] [126] = n := by
  rw [half_eq, whole_eq]

/-! What Split tells of a pointer's text, behind its first sign. -/
theorem name_no47 (n : List UInt8) : 47 ∉ name n := by
  intro h
  obtain ⟨c, _, hc⟩ := List.mem_flatMap.1 h
  unfold esc at hc
  split at hc
  · simp at hc
  · split at hc
    · simp at hc
    · rename_i h1; simp at hc; exact h1 hc.symm
theorem count_none {a : List UInt8} (h : 47 ∉ a) : Lib.count a [47] = 0 := by rw [count_one]; exact List.count_eq_zero.2 h
theorem index_at (a b : List UInt8) (h : 47 ∉ a) : Lib.index (a ++ 47 :: b) [47] = (a.length : Nat) := by
  induction a with
  | nil =>
    rw [List.nil_append, Lib.index, if_pos (by simp [List.isPrefixOf])]; rfl
  | cons c a ih =>
    have hc : c ≠ 47 := fun e => h (by simp [e])
    rw [List.cons_append, Lib.index, if_neg (by simp [List.isPrefixOf, Ne.symm hc]), ih (fun e => h (by simp [e]))]
    rw [if_neg (by rw [beq_iff_eq]; omega)]
    simp
theorem split_last {a : List UInt8} (h : 47 ∉ a) : splitK [47] 0 (Lib.count a [47]) a = [a] := by rw [count_none h]; rfl
theorem splitK_hit (save k : Nat) (s : List UInt8) (i : Nat) (h : Lib.index s [47] = i) : splitK [47] save (k + 1) s = s.take (i + save) :: splitK [47] save k (s.drop (i + 1)) := by
  have hm : ¬ (Lib.index s [47] == -1) = true := fun e => by have := beq_iff_eq.1 e; omega
  have e : (Lib.index s [47]).toNat = i := by omega
  rw [splitK, if_neg hm, e]; rfl
theorem split_more (a b : List UInt8) (h : 47 ∉ a) : splitK [47] 0 (Lib.count (a ++ 47 :: b) [47]) (a ++ 47 :: b) = a :: splitK [47] 0 (Lib.count b [47]) b := by
  have hx := index_at a b h
  rw [count_hit (by simp) hx, Nat.add_comm, splitK_hit _ _ _ _ hx]
  have hd : (a ++ 47 :: b).drop (a.length + 1) = b := by
    rw [show a ++ 47 :: b = (a ++ [47]) ++ b by simp, show a.length + 1 = (a ++ [47]).length by simp, List.drop_left]
  simp only [List.length_singleton] at *
  rw [hd]
  simp
theorem split_text (n : List UInt8) (l : List (List UInt8)) : splitK [47] 0 (Lib.count (name n ++ text l) [47]) (name n ++ text l) = name n :: l.map name := by
  induction l generalizing n with
  | nil =>
    have e : text ([] : List (List UInt8)) = [] := rfl
    rw [e, List.append_nil, split_last (name_no47 n)]; rfl
  | cons m l ih =>
    rw [text_cons, split_more _ _ (name_no47 n), ih]; rfl

/-! The first ~ that stands for nothing. -/
def loose : List UInt8 → Nat → Option Nat
  | [], _ => none
  | c :: t, i => if c = 126 ∧ t.head? ≠ some 48 ∧ t.head? ≠ some 49 then some i else loose t (i + 1)
theorem loose_cons (c : UInt8) (t : List UInt8) (i : Nat) : loose (c :: t) i = if c = 126 ∧ t.head? ≠ some 48 ∧ t.head? ≠ some 49 then some i else loose t (i + 1) := rfl
theorem go_loose : ∀ (k : Nat) (t : List UInt8), t.length ≤ k → ∀ (i : Nat) (l : List (List UInt8)), (loose t i = none → ∃ r, go t i l = .ok r) ∧ (∀ p, loose t i = some p → go t i l = .bad p)
  | k, [], _, i, l => ⟨fun _ => ⟨l, rfl⟩, fun p h => by cases h⟩
  | 0, c :: t, hk, _, _ => by simp at hk
  | k + 1, c :: t, hk, i, l => by
    simp only [List.length_cons] at hk
    rw [loose_cons, go_cons]
    by_cases h1 : c = 47
    · rw [if_pos h1, if_neg (by rw [h1]; rintro ⟨h, _⟩; exact absurd h (by decide))]
      exact go_loose k t (by omega) _ _
    · rw [if_neg h1]
      by_cases h2 : c = 126
      · rw [if_pos h2]
        cases t with
        | nil =>
          rw [if_pos ⟨h2, by simp, by simp⟩]
          exact ⟨(fun h => by cases h), fun p h => by injection h with h; rw [h]⟩
        | cons d t =>
          simp only [List.length_cons] at hk
          simp only
          by_cases d1 : d = 48
          · subst d1
            rw [if_pos rfl, if_neg (by simp), loose_cons, if_neg (by rintro ⟨h, _⟩; exact absurd h (by decide))]
            exact go_loose k t (by omega) _ _
          · by_cases d2 : d = 49
            · subst d2
              rw [if_neg d1, if_pos rfl, if_neg (by simp), loose_cons, if_neg (by rintro ⟨h, _⟩; exact absurd h (by decide))]
              exact go_loose k t (by omega) _ _
            · rw [if_neg d1, if_neg d2, if_pos ⟨h2, by simpa using d1, by simpa using d2⟩]
              exact ⟨(fun h => by cases h), fun p h => by injection h with h; rw [h]⟩
      · rw [if_neg h2, if_neg (fun h => h2 h.1)]
        exact go_loose k t (by omega) _ _
/-- What Parse comes to: nothing, no sign ahead, a ~ that stands for nothing, or names. -/
theorem parse_loose (t : List UInt8) (p : Nat) (h : loose (47 :: t) 0 = some p) : parse (47 :: t) = .bad p := by
  show (if (47 : UInt8) = 47 then go (47 :: t) 0 [] else Res.bad 0) = _
  rw [if_pos rfl]; exact (go_loose _ _ (Nat.le_refl _) 0 []).2 p h
theorem parse_tight (t : List UInt8) (h : loose (47 :: t) 0 = none) : ∃ n l, parse (47 :: t) = .ok (n :: l) ∧ t = name n ++ text l ∧ l.length ≤ t.length := by
  obtain ⟨r, hr⟩ := (go_loose _ (47 :: t) (Nat.le_refl _) 0 []).1 h
  have hp : parse (47 :: t) = .ok r := by
    show (if (47 : UInt8) = 47 then go (47 :: t) 0 [] else Res.bad 0) = _
    rw [if_pos rfl]; exact hr
  have hb := parse_back hp
  cases r with
  | nil => have := hb.1; cases this
  | cons n l =>
    have h1 := hb.1
    rw [text_cons] at h1
    injection h1 with _ h1
    have h2 := hb.2
    simp only [List.length_cons] at h2
    exact ⟨n, l, hp, h1.symm, by omega⟩
theorem loose_ge : ∀ (t : List UInt8) (i p : Nat), loose t i = some p → i ≤ p ∧ p < i + t.length
  | [], i, p, h => by cases h
  | c :: t, i, p, h => by
    rw [loose_cons] at h
    split at h
    · injection h with h; subst h; simp
    · have := loose_ge t _ _ h; simp only [List.length_cons]; omega

/-! A name as a place. -/
def placeOf (nm : List UInt8) : Nat × Bool := if nm = [] ∨ 18 < nm.length ∨ (nm.head? = some 48 ∧ nm ≠ [48]) ∨ ¬ (nm.all Nm.dig = true) then (0, false) else (Nm.val nm, true)
theorem lead_iff (nm : List UInt8) : (nm.head? = some 48 ∧ nm ≠ [48]) ↔ (1 < nm.length ∧ nm.head? = some 48) := by
  rcases nm with _ | ⟨c, _ | ⟨d, r⟩⟩
  · simp
  · simp
  · simp
theorem index_place (nm : List UInt8) (n : Nat) (e : Bool) (h0 : ¬ (e = true ∧ nm = [45])) :
    index nm n e = if (placeOf nm).2 = true ∧ ((placeOf nm).1 < n ∨ ((placeOf nm).1 = n ∧ e = true)) then ((placeOf nm).1, true) else (0, false) := by
  unfold index placeOf
  rw [if_neg h0]
  by_cases h1 : nm = [] ∨ ¬ (nm.all Nm.dig = true) ∨ (1 < nm.length ∧ nm.head? = some 48) ∨ 18 < nm.length
  · rw [if_pos h1]
    have h2 : nm = [] ∨ 18 < nm.length ∨ (nm.head? = some 48 ∧ nm ≠ [48]) ∨ ¬ (nm.all Nm.dig = true) := by
      rcases h1 with h | h | h | h
      · exact .inl h
      · exact .inr (.inr (.inr h))
      · exact .inr (.inr (.inl ((lead_iff nm).2 h)))
      · exact .inr (.inl h)
    rw [if_pos h2, if_neg (by simp)]
  · rw [if_neg h1]
    have h2 : ¬ (nm = [] ∨ 18 < nm.length ∨ (nm.head? = some 48 ∧ nm ≠ [48]) ∨ ¬ (nm.all Nm.dig = true)) := by
      rintro (h | h | h | h)
      · exact h1 (.inl h)
      · exact h1 (.inr (.inr (.inr h)))
      · exact h1 (.inr (.inr (.inl ((lead_iff nm).1 h))))
      · exact h1 (.inr (.inl h))
    rw [if_neg h2]
    simp

end Go.Proofs.YtkhplaknogalgaaDoor.Pt

/- The walks of layer 6 (ptr): the program's place and Index. -/
namespace Go.Proofs.YtkhplaknogalgaaDoor
open Go.RowKit Pt

/-- A text's bytes, in a row of their own. -/
theorem bytes_of (s : List UInt8) (w : World) : ∃ (cap : Nat) (w2 : World), (convert 9 84 (.string ⟨s.toArray⟩)).run Tryd.prog w = .ok (.slice (some ⟨w.heap.size, 0, none⟩) s.length cap) w2 ∧ Below w.heap.size w w2 ∧
    ∀ j (hj : j < s.length), w2.cell? ⟨w.heap.size, j, none⟩ = some (.int .u8 s[j].toNat) := by
  have h := Lib.run_convert_string_bytes w 9 84 5 ⟨s.toArray⟩ Tryd.underlying9 Tryd.underlying84 Tryd.underlying5
  rw [Lib.size_mk] at h
  refine ⟨_, _, h, ⟨rfl, rfl, rfl, by rw [Lib.bytesWorld_size]; omega, fun j hj => Lib.bytesWorld_at_old w _ _ j hj⟩, fun j hj => ?_⟩
  rw [Lib.bytesWorld_cell w _ _ j (by rw [Lib.size_mk]; exact hj)]
  have e : (⟨s.toArray⟩ : ByteArray).data.toList.getD j 0 = s[j] := by
    show s.getD j 0 = s[j]
    simp [List.getD, hj]
  rw [e]

/-- How far place has come. -/
def Placing (nm : List UInt8) (w : World) (k i : Value) (wr : World) : Prop :=
  ∃ j : Nat, j ≤ nm.length ∧ i = .int .i64 j ∧ k = .int .i64 (Nm.val (nm.take j)) ∧ (nm.take j).all Nm.dig = true ∧ wr = w

theorem all_take (nm : List UInt8) (j : Nat) (h : j < nm.length) : (nm.take (j + 1)).all Nm.dig = ((nm.take j).all Nm.dig && Nm.dig nm[j]) := by
  rw [List.take_succ_eq_append_getElem h, List.all_append]; simp
theorem val_snoc9 (nm : List UInt8) (h : nm.all Nm.dig = true) (hl : nm.length ≤ 17) : Nm.val nm < 100000000000000000 := by
  have h1 := Nm.val_lt nm (fun c hc => (List.all_eq_true.1 h) c hc)
  have h3 : 10 ^ nm.length ≤ 10 ^ 17 := Nat.pow_le_pow_right (by omega) hl
  omega

/-- What place tells. -/
def PlacePost (nm : List UInt8) (w : World) (e : Ending) (w' : World) : Prop := e = .returned (.tuple #[.int .i64 (placeOf nm).1, .bool (placeOf nm).2]) ∧ Below w.heap.size w w'

end Go.Proofs.YtkhplaknogalgaaDoor

/- The walks of layer 6 (ptr): the program's findLoose, plain, escaped; Split at a pointer's text. -/
namespace Go.Proofs.YtkhplaknogalgaaDoor
open Go.RowKit Pt

/-- The library's own variable holds some number. -/
def MaxT (w : World) : Prop := ∃ m : Int, w.cell? ⟨0, 0, none⟩ = some (.int .i64 m)
theorem MaxT.on {w w' : World} (h : MaxT w) (hb : Below w.heap.size w w') : MaxT w' := by
  obtain ⟨m, hm⟩ := h
  exact ⟨m, le_below hb _ _ hm⟩
theorem MaxT.keep {B : Nat} {w w' : World} (h : MaxT w) (hb : Below B w w') (hB : w.heap.size ≤ B) : MaxT w' := h.on (hb.mono hB)

theorem prefix_on (r : List UInt8) (c : UInt8) (w : World) : Calls Tryd.prog 52 #[.string ⟨r.toArray⟩, .string ⟨#[c]⟩] w fun e w' => e = .returned (.bool (r.head? == some c)) ∧ w' = w := by
  refine (Tryd.strings_HasPrefix ⟨r.toArray⟩ ⟨#[c]⟩ w).mono ?_
  rintro e w' ⟨rfl, rfl⟩
  exact ⟨by rw [show (⟨#[c]⟩ : ByteArray).data.toList = [c] from rfl, show (⟨r.toArray⟩ : ByteArray).data.toList = r from rfl, Nm.prefix_one], rfl⟩

theorem repl_on (s old new : List UInt8) (q : List UInt8) (hq : Lib.replaceAll s old new = q) (w : World) (hT : MaxT w) (hs : s.length ≤ 100000000) (h1 : old ≠ []) (h2 : new.length ≤ 2) :
    Calls Tryd.prog 54 #[.string ⟨s.toArray⟩, .string ⟨old.toArray⟩, .string ⟨new.toArray⟩] w fun e w' => e = .returned (.string ⟨q.toArray⟩) ∧ Below w.heap.size w w' := by
  obtain ⟨m, hm⟩ := hT
  subst hq
  have hl : (⟨s.toArray⟩ : ByteArray).size = s.length := Lib.size_mk s
  have ho : 1 ≤ (⟨old.toArray⟩ : ByteArray).size := by rw [Lib.size_mk]; exact List.length_pos_iff.2 h1
  have hc := Lib.countB_le ⟨old.toArray⟩ ho s.length ⟨s.toArray⟩ (by omega)
  have hn : (⟨new.toArray⟩ : ByteArray).size ≤ 2 := by rw [Lib.size_mk]; exact h2
  have hmul := Nat.mul_le_mul hc hn
  exact Tryd.strings_ReplaceAll ⟨s.toArray⟩ ⟨old.toArray⟩ ⟨new.toArray⟩ m w (by omega) hm ho (by omega)

/-- Split at the text of names. -/
theorem split_on (n : List UInt8) (l : List (List UInt8)) (w : World) (hT : MaxT w) (hs : (name n ++ text l).length ≤ 100000000) :
    Calls Tryd.prog 49 #[.string ⟨(name n ++ text l).toArray⟩, .string ⟨#[47]⟩] w fun e w' => e = .returned (.slice (some ⟨w.heap.size, 0, none⟩) (l.length + 1) (l.length + 1)) ∧ w' = w.alloc (.cells (strs ((n :: l).map name)).toArray 9) := by
  obtain ⟨m, hm⟩ := hT
  have hl : (⟨(name n ++ text l).toArray⟩ : ByteArray).size = (name n ++ text l).length := Lib.size_mk _
  have ho : 1 ≤ (⟨#[47]⟩ : ByteArray).size := by decide
  have hall := Lib.splitB_all ⟨#[47]⟩ ho 0 _ ⟨(name n ++ text l).toArray⟩ rfl
  have hsp : (Lib.splitB ⟨#[47]⟩ 0 (Lib.countB ⟨(name n ++ text l).toArray⟩ ⟨#[47]⟩) ⟨(name n ++ text l).toArray⟩).map (·.data.toList) = (n :: l).map name := by
    rw [Lib.splitB_data]
    exact split_text n l
  have hlen : Lib.countB ⟨(name n ++ text l).toArray⟩ ⟨#[47]⟩ + 1 = l.length + 1 := by
    have := congrArg List.length hsp
    rw [List.length_map, hall] at this
    simpa using this
  have hstr : (Lib.splitB ⟨#[47]⟩ 0 (Lib.countB ⟨(name n ++ text l).toArray⟩ ⟨#[47]⟩) ⟨(name n ++ text l).toArray⟩).map Value.string = strs ((n :: l).map name) := by
    rw [← hsp, strs, List.map_map]
    refine List.map_congr_left fun x _ => ?_
    rfl
  refine (Tryd.strings_Split ⟨(name n ++ text l).toArray⟩ ⟨#[47]⟩ m w (by omega) hm ho).mono ?_
  rintro e w' ⟨rfl, rfl⟩
  rw [hlen, hstr]
  exact ⟨by norm_cast, rfl⟩

set_option linter.unusedSimpArgs false in
set_option linter.unusedVariables false in
set_option maxRecDepth 100000 in
set_option maxHeartbeats 1000000 in
theorem plain_any (n : List UInt8) (w : World) (hT : MaxT w) (hs : n.length ≤ 10000000) :
    Calls Tryd.prog 50 #[.string ⟨(name n).toArray⟩] w fun e w' => e = .returned (.string ⟨n.toArray⟩) ∧ Below w.heap.size w w' := by
  have hl := name_len n
  have hh := half_len n
  have H1 := Lib.hid (repl_on (name n) [126, 49] [47] (half n) (half_eq n) w hT (by omega) (by simp) (by simp))
  have H2 := Lib.hid (fun W hT => repl_on (half n) [126, 48] [126] n (whole_eq n) W hT (by omega) (by simp) (by simp))
  have HT := Lib.hid hT
  clear hT
  go_enter Tryd.func50, Tryd.ntmps50
  go_wp2_with fail
  refine H1.out.mono ?_
  rintro e w1 ⟨rfl, hb1⟩
  go_wp2_with fail
  refine (H2.out _ (HT.out.on hb1)).mono ?_
  rintro e w2 ⟨rfl, hb2⟩
  go_wp2_with fail
  go_ret
  exact ⟨rfl, hb1.trans (hb2.mono hb1.size)⟩

/-- How far findLoose has come. -/
def Loosing (t : List UInt8) (w : World) (v : Value) (wr : World) : Prop :=
  ∃ j : Nat, j ≤ t.length ∧ v = .int .i64 j ∧ loose t 0 = loose (t.drop j) j ∧ wr = w

set_option linter.unusedSimpArgs false in
set_option linter.unusedVariables false in
set_option maxRecDepth 100000 in
set_option maxHeartbeats 1000000 in
theorem findLoose_any (t : List UInt8) (w : World) (hs : t.length ≤ 1000000000000) :
    Calls Tryd.prog 48 #[.string ⟨t.toArray⟩] w fun e w' => e = .returned (.tuple #[.int .i64 ((loose t 0).getD 0 : Nat), .bool (loose t 0).isSome]) ∧ Below w.heap.size w w' := by
  go_enter Tryd.func48, Tryd.ntmps48
  go_wp2_with fail
  go_loopw [8] (Loosing t w) (fun v _ => t.length - (intOf v).toNat)
  case atStart => exact ⟨0, by omega, rfl, rfl, rfl⟩
  case round =>
    obtain ⟨j, hj, rfl, hl, rfl⟩ := hrel
    have HL := Lib.hid hl
    clear hl
    by_cases hlt : j < t.length
    · obtain ⟨c, hc⟩ : ∃ c, t[j] = c := ⟨_, rfl⟩
      have hix : ∀ h, (⟨t.toArray⟩ : ByteArray)[j]'h = c := fun h => by rw [← hc]; rfl
      have HD := Lib.hid (show t.drop j = c :: t.drop (j + 1) by rw [List.drop_eq_getElem_cons hlt, hc])
      have HG := Lib.hid (show loose t 0 = loose (c :: t.drop (j + 1)) j by rw [← HD.out]; exact HL.out)
      by_cases c1 : c = 126
      · have b1 : ((c.toNat : Int) != 126) = false := by rw [c1]; rfl
        have hex : (⟨t.toArray⟩ : ByteArray).extract (j + 1) t.length = ⟨(t.drop (j + 1)).toArray⟩ := by
          rw [Lib.extract_mk, List.take_of_length_le (by rw [List.length_drop]; omega)]
        generalize hr : t.drop (j + 1) = r at *
        have HRD := Lib.hid hr
        have HNX := Lib.hid (fun (h : ¬ (r.head? ≠ some 48 ∧ r.head? ≠ some 49)) => show loose t 0 = loose (t.drop (j + 1)) (j + 1) by rw [HG.out, loose_cons, if_neg (fun k => h k.2), HRD.out])
        have HBD := Lib.hid (fun (h : r.head? ≠ some 48 ∧ r.head? ≠ some 49) => show loose t 0 = some j by rw [HG.out, loose_cons, if_pos ⟨c1, h⟩])
        have HP1 := Lib.hid (fun W => prefix_on r 48 W)
        have HP2 := Lib.hid (fun W => prefix_on r 49 W)
        have HQ1 := Lib.hid (show ((r.head? == some 48) = true ↔ r.head? = some 48) from beq_iff_eq)
        have HQ2 := Lib.hid (show ((r.head? == some 49) = true ↔ r.head? = some 49) from beq_iff_eq)
        generalize (r.head? == some 48) = q1 at *
        generalize (r.head? == some 49) = q2 at *
        clear hr c1
        go_wp2_with fail
        refine (HP1.out _).mono ?_
        rintro e w' ⟨rfl, hw⟩
        subst hw
        cases q1 with
        | true =>
          have HN := Lib.hid (HNX.out (fun h => h.1 (HQ1.out.1 rfl)))
          go_wp2_with fail
          go_roundw
          case rel => exact ⟨j + 1, by omega, by go_num, HN.out, rfl⟩
          case measure => simp [intOf]; omega
        | false =>
          have h1 : r.head? ≠ some 48 := fun h => absurd (HQ1.out.2 h) (by decide)
          have H1 := Lib.hid h1
          clear h1
          go_wp2_with fail
          refine (HP2.out _).mono ?_
          rintro e w' ⟨rfl, hw⟩
          subst hw
          cases q2 with
          | true =>
            have HN := Lib.hid (HNX.out (fun h => h.2 (HQ2.out.1 rfl)))
            go_wp2_with fail
            go_roundw
            case rel => exact ⟨j + 1, by omega, by go_num, HN.out, rfl⟩
            case measure => simp [intOf]; omega
          | false =>
            have HN := Lib.hid (HBD.out ⟨H1.out, fun h => absurd (HQ2.out.2 h) (by decide)⟩)
            go_wp2_with fail
            go_ret2
            rw [HN.out]
            exact ⟨rfl, Below.refl _ _⟩
      · have b1 : ((c.toNat : Int) != 126) = true := by have := byte_neb 126 c1; simpa using this
        have HN := Lib.hid (show loose t 0 = loose (t.drop (j + 1)) (j + 1) by rw [HG.out, loose_cons, if_neg (fun h => c1 h.1)])
        clear c1
        go_wp2_with fail
        go_roundw
        case rel => exact ⟨j + 1, by omega, by go_num, HN.out, rfl⟩
        case measure => simp [intOf]; omega
    · obtain rfl : j = t.length := by omega
      have HN := Lib.hid (show loose t 0 = none by rw [HL.out, List.drop_length]; rfl)
      go_wp2_with fail
      go_ret2
      rw [HN.out]
      exact ⟨rfl, Below.refl _ _⟩

end Go.Proofs.YtkhplaknogalgaaDoor

/- The walks of layer 6 (ptr): the program's Parse. -/
namespace Go.Proofs.YtkhplaknogalgaaDoor
open Go.RowKit Pt

/-- What Parse tells: names, or the place that is amiss. -/
def ParsePost (t : List UInt8) (w : World) (e : Ending) (w' : World) : Prop :=
  Below w.heap.size w w' ∧ ((∃ l A, parse t = .ok l ∧ e = .returned (.tuple #[.slice A l.length l.length, .nilIface]) ∧ Strs w'.cell? A l) ∨
    (∃ p b : Nat, parse t = .bad p ∧ e = .returned (.tuple #[.slice none 0 0, spotV b]) ∧ SpotAt w' b p 1))

/-- The same, and the names lie in a block of their own. -/
def ParsePostN (t : List UInt8) (w : World) (e : Ending) (w' : World) : Prop :=
  Below w.heap.size w w' ∧ ((∃ l A, parse t = .ok l ∧ e = .returned (.tuple #[.slice A l.length l.length, .nilIface]) ∧ Strs (w'.on (w.heap.size ≤ ·)) A l) ∨
    (∃ p b : Nat, parse t = .bad p ∧ e = .returned (.tuple #[.slice none 0 0, spotV b]) ∧ SpotAt w' b p 1))

theorem strs_at {w : World} {g : Nat} {l : List (List UInt8)} (h : Blk w g 9 (strs l).toArray) : Strs w.cell? (some ⟨g, 0, none⟩) l := fun i n hi => by
  refine ⟨g, 0, rfl, ?_⟩
  rw [h.cell, Nat.zero_add]
  simp [strs, hi]
theorem strs_new {w : World} {g B : Nat} {l : List (List UInt8)} (h : Blk w g 9 (strs l).toArray) (hB : B ≤ g) : Strs (w.on (B ≤ ·)) (some ⟨g, 0, none⟩) l := fun i n hi => by
  refine ⟨g, 0, rfl, on_some.2 ⟨hB, ?_⟩⟩
  rw [h.cell, Nat.zero_add]
  simp [strs, hi]
/-- Names, half of them plain. -/
def mixed (l : List (List UInt8)) (j : Nat) : List (List UInt8) := l.take j ++ (l.drop j).map name
theorem mixed_length (l : List (List UInt8)) (j : Nat) : (mixed l j).length = l.length := by
  simp [mixed]; omega
theorem mixed_now (l : List (List UInt8)) (j : Nat) (h : j < l.length) : mixed l j = l.take j ++ name l[j] :: (l.drop (j + 1)).map name := by
  unfold mixed; rw [List.drop_eq_getElem_cons h, List.map_cons]
theorem mixed_next (l : List (List UInt8)) (j : Nat) (h : j < l.length) : mixed l (j + 1) = l.take j ++ l[j] :: (l.drop (j + 1)).map name := by
  unfold mixed; rw [List.take_succ_eq_append_getElem h, List.append_assoc]; rfl
theorem mixed_at (l : List (List UInt8)) (j : Nat) (h : j < l.length) : (strs (mixed l j))[j]? = some (.string ⟨(name l[j]).toArray⟩) := by
  have hl : (strs (l.take j)).length = j := by simp [strs]; omega
  rw [mixed_now l j h, strs_append, List.getElem?_append_right (by omega), hl, Nat.sub_self]; rfl
theorem mixed_set (l : List (List UInt8)) (j : Nat) (h : j < l.length) : (strs (mixed l j)).set j (.string ⟨l[j].toArray⟩) = strs (mixed l (j + 1)) := by
  have hl : (strs (l.take j)).length = j := by simp [strs]; omega
  rw [mixed_now l j h, mixed_next l j h, strs_append, strs_append, List.set_append_right _ _ (by omega), hl, Nat.sub_self]; rfl
theorem mixed_zero (l : List (List UInt8)) : mixed l 0 = l.map name := by simp [mixed]
theorem mixed_all (l : List (List UInt8)) : mixed l l.length = l := by simp [mixed]

/-- How far Parse has come. -/
def Plaining (l : List (List UInt8)) (g : Nat) (w : World) (v : Value) (wr : World) : Prop :=
  ∃ j : Nat, j ≤ l.length ∧ v = .int .i64 j ∧ Blk wr g 9 (strs (mixed l j)).toArray ∧ Below w.heap.size w wr

theorem name_in (l : List (List UInt8)) (j : Nat) (h : j < l.length) : (name l[j]).length ≤ (text l).length := by
  have := text_take_len l j h
  omega

set_option linter.unusedSimpArgs false in
set_option linter.unusedVariables false in
set_option maxRecDepth 100000 in
set_option maxHeartbeats 1000000 in
theorem ptrParseN_any (t : List UInt8) (w : World) (hT : MaxT w) (hs : t.length ≤ 100000) :
    Calls Tryd.prog 41 #[.string ⟨t.toArray⟩] w (ParsePostN t w) := by
  rcases t with _ | ⟨c0, t0⟩
  · go_enter Tryd.func41, Tryd.ntmps41
    go_wp2_with fail
    go_ret2
    exact ⟨Below.refl _ _, .inl ⟨[], none, rfl, rfl, fun i n h => by simp at h⟩⟩
  have HSZ := Lib.hid (Lib.size_mk (c0 :: t0))
  have hix : ∀ h, (⟨(c0 :: t0).toArray⟩ : ByteArray)[0]'h = c0 := fun _ => rfl
  have q0 : ((c0 :: t0) == ([] : List UInt8)) = false := rfl
  by_cases h47 : c0 = 47
  · subst h47
    have HFL := Lib.hid (findLoose_any (47 :: t0) w (by omega))
    have HT := Lib.hid hT
    clear hT
    cases hlo : loose (47 :: t0) 0 with
    | some p =>
      have HR := Lib.hid (parse_loose t0 p hlo)
      rw [hlo] at HFL
      simp only [Option.getD_some, Option.isSome_some] at HFL
      have hp := loose_ge _ _ _ hlo
      clear hlo
      generalize (47 : UInt8) :: t0 = s at *
      have hs0 : 0 < s.length := by omega
      go_enter Tryd.func41, Tryd.ntmps41
      go_wp2_with fail
      refine HFL.out.mono ?_
      rintro e w1 ⟨rfl, hb1⟩
      go_wp2_with fail
      go_ret2
      exact ⟨hb1.alloc hb1.size _, .inr ⟨p, w1.heap.size, HR.out, rfl, by simp, by simp⟩⟩
    | none =>
      obtain ⟨n, l, hok, ht, hll⟩ := parse_tight t0 hlo
      have HR := Lib.hid hok
      rw [hlo] at HFL
      simp only [Option.getD_none, Option.isSome_none] at HFL
      have HSP := Lib.hid (fun W hT => split_on n l W hT (by rw [← ht]; simp only [List.length_cons] at hs; omega))
      rw [← ht] at HSP
      have HTX := Lib.hid (show (text (n :: l)).length ≤ 100000 by rw [text_cons, ← ht]; exact hs)
      clear hlo hok ht
      have hex : (⟨((47 : UInt8) :: t0).toArray⟩ : ByteArray).extract 1 ((47 :: t0) : List UInt8).length = ⟨t0.toArray⟩ := by
        rw [Lib.extract_mk]; simp
      have hex2 : (⟨((47 : UInt8) :: t0).toArray⟩ : ByteArray).extract 1 (t0.length + 1) = ⟨t0.toArray⟩ := hex
      generalize hls : n :: l = ls at *
      have hln : l.length + 1 = ls.length := by rw [← hls]; rfl
      rw [hln] at HSP
      have hlsl : ls.length ≤ 200000 := by simp only [List.length_cons] at hs; omega
      clear hls
      go_enter Tryd.func41, Tryd.ntmps41
      go_wp2_with fail
      refine HFL.out.mono ?_
      rintro e w1 ⟨rfl, hb1⟩
      have HB1 := Lib.hid hb1
      clear hb1
      go_wp2_with fail
      refine (HSP.out _ (HT.out.on HB1.out)).mono ?_
      rintro e w2 ⟨rfl, hw2⟩
      have HBLK := Lib.hid (show Blk w2 w1.heap.size 9 (strs (mixed ls 0)).toArray by rw [mixed_zero, hw2]; exact Blk.new _ _ _)
      have HB2 := Lib.hid (show Below w.heap.size w w2 by rw [hw2]; exact HB1.out.alloc HB1.out.size _)
      have hg1 := HB1.out.size
      clear hw2 HB1
      generalize w1.heap.size = g at *
      go_wp2_with fail
      go_loopw [32] (Plaining ls g w) (fun v _ => ls.length - (intOf v).toNat)
      case atStart => exact ⟨0, by omega, rfl, HBLK.out, HB2.out⟩
      case round =>
        obtain ⟨j, hj, rfl, hblk, hW⟩ := hrel
        have HBL := Lib.hid hblk
        have HW := Lib.hid hW
        clear hblk hW
        by_cases hlt : j < ls.length
        · have hcell : wr.cell? ⟨g, j, none⟩ = some (.string ⟨(name ls[j]).toArray⟩) := by rw [HBL.out.cell j, List.getElem?_toArray]; exact mixed_at ls j hlt
          have HST := Lib.hid (mixed_set ls j hlt)
          have hnl := name_in ls j hlt
          have hnn := name_ge ls[j]
          have HTX2 := HTX.out
          generalize ls[j] = n1 at *
          have HPL := Lib.hid (fun W hT => plain_any n1 W hT (by omega))
          clear hnl hnn HTX2
          go_wp2_with fail
          refine (HPL.out _ (HT.out.on HW.out)).mono ?_
          rintro e w3 ⟨rfl, hw3⟩
          have hb3 := HBL.out.on hw3
          have HB3 := Lib.hid hb3
          have HW3 := Lib.hid (HW.out.trans (hw3.mono HW.out.size))
          have hc3 : w3.cell? ⟨g, j, none⟩ = some (.string ⟨(name n1).toArray⟩) := by rw [le_below hw3 _ _ hcell]
          have hfz := hb3.frozen j
          have hgl := hb3.lt
          clear hb3 hw3 hcell
          go_wp2_with fail
          go_roundw
          case rel => exact ⟨j + 1, by omega, by go_num, HST.out ▸ HB3.out.setL j _, HW3.out.setCell (p := ⟨g, j, none⟩) hg1 _⟩
          case measure => simp [intOf]; omega
        · obtain rfl : j = ls.length := by omega
          have HBL2 := HBL.out
          rw [mixed_all] at HBL2
          have HBL3 := Lib.hid HBL2
          clear HBL2
          go_wp2_with fail
          go_ret2
          exact ⟨HW.out, .inl ⟨ls, _, HR.out, rfl, strs_new HBL3.out hg1⟩⟩
  · have hc : ((c0.toNat : Int) != 47) = true := by
      rw [bne_iff_ne]; intro e; exact h47 (UInt8.toNat_inj.1 (by show c0.toNat = 47; omega))
    have HR := Lib.hid (show parse (c0 :: t0) = .bad 0 from if_neg h47)
    clear h47
    go_enter Tryd.func41, Tryd.ntmps41
    go_wp2_with fail
    go_ret2
    exact ⟨(Below.refl _ _).alloc (Nat.le_refl _) _, .inr ⟨0, w.heap.size, HR.out, rfl, by simp, by simp⟩⟩

theorem ptrParse_any (t : List UInt8) (w : World) (hT : MaxT w) (hs : t.length ≤ 100000) :
    Calls Tryd.prog 41 #[.string ⟨t.toArray⟩] w (ParsePost t w) := by
  refine (ptrParseN_any t w hT hs).mono ?_
  rintro e w' ⟨hb, ⟨l, A, h1, h2, h3⟩ | h⟩
  · exact ⟨hb, .inl ⟨l, A, h1, h2, h3.keep (le_on _ _)⟩⟩
  · exact ⟨hb, .inr h⟩

end Go.Proofs.YtkhplaknogalgaaDoor


