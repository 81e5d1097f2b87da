/- Ka: Ka Kb Kc, in one text. -/
import Derived.Test.YtccacjkogdmleaaDoorPp
import Derived.Lib.ReplaceLaws
import Derived.Lib.SplitLaws
import Derived.Test.YtccacjkogdmleaaDoorPq
import Derived.Test.YtccacjkogdmleaaDoorSf
import Derived.Lib.ConvBytes
import Derived.Test.YtccacjkogdmleaaDoorShelf
import Derived.Lib.Hide
import Derived.Test.YtccacjkogdmleaaDoorMk
/- Ka: Ka Kd, in one text. -/
/- Plain mathematics of layer 6 (ptr), the program's way: what Split and ReplaceAll of the library come to on a pointer's text; the first ~ that stands for nothing; a name as a place. -/
namespace Go.Proofs.YtccacjkogdmleaaDoor.Pt
open Go.Lib (replaceAll replace replaceNum replaceK replaceK_hit count_miss count_hit count_one splitK index_ge)

/-! All instances of one text replaced. -/
theorem rep_nil {old new : List UInt8} (h : old ≠ []) (hn : old ≠ new) : replaceAll [] old new = [] := by
  have hi : Lib.index [] old = -1 := by cases old with
    | nil => exact absurd rfl h
    | cons => rfl
  have hb : (old == new) = false := by simpa using hn
  unfold replaceAll replace
  rw [hb, if_neg (by decide)]
  unfold replaceNum
  rw [if_pos (.inl (by decide)), count_miss hi]; rfl
theorem rep_all {s old new : List UInt8} (hn : old ≠ new) : replaceAll s old new = replaceK old new (Lib.count s old) s := by
  have hb : (old == new) = false := by simpa using hn
  unfold replaceAll replace
  rw [hb, if_neg (by decide)]
  unfold replaceNum
  rw [if_pos (.inl (by decide))]
theorem rep_hit {s old new : List UInt8} (h : old ≠ []) (hn : old ≠ new) : replaceAll (old ++ s) old new = new ++ replaceAll s old new := by
  have hi : Lib.index (old ++ s) old = ((0 : Nat) : Int) := by
    cases old with
    | nil => exact absurd rfl h
    | cons b l =>
      rw [List.cons_append, Lib.index, ← List.cons_append, if_pos (by rw [List.isPrefixOf_iff_prefix]; exact List.prefix_append _ _)]; rfl
  rw [rep_all hn, rep_all hn, count_hit h hi, Nat.add_comm, replaceK_hit _ _ _ _ _ hi]
  simp
theorem rep_miss {c : UInt8} {s old new : List UInt8} (h : old ≠ []) (hn : old ≠ new) (hp : old.isPrefixOf (c :: s) = false) : replaceAll (c :: s) old new = c :: replaceAll s old new := by
  rw [rep_all hn, rep_all hn]
  have hx : Lib.index (c :: s) old = if Lib.index s old == -1 then -1 else Lib.index s old + 1 := by rw [Lib.index, hp]; rfl
  have hge := index_ge s old
  by_cases hm : Lib.index s old = -1
  · have h1 : Lib.index (c :: s) old = -1 := by rw [hx, hm]; rfl
    rw [count_miss hm, count_miss h1]; rfl
  · obtain ⟨i, hi⟩ : ∃ i : Nat, Lib.index s old = i := ⟨(Lib.index s old).toNat, by omega⟩
    have h1 : Lib.index (c :: s) old = ((i + 1 : Nat) : Int) := by
      rw [hx, if_neg (by simpa using hm), hi]; rfl
    rw [count_hit h hi, count_hit h h1, Nat.add_comm 1, Nat.add_comm 1, replaceK_hit _ _ _ _ _ hi, replaceK_hit _ _ _ _ _ h1]
    rw [show i + 1 + old.length = (i + old.length) + 1 by omega]
    simp
theorem pre_two {a b c d : UInt8} {s : List UInt8} : ([a, b] : List UInt8).isPrefixOf (c :: d :: s) = (a == c && b == d) := by
  simp [List.isPrefixOf]

/-! Names: what escaped and plain come to. -/
theorem rep_one {a : UInt8} {new : List UInt8} (hn : [a] ≠ new) (s : List UInt8) : replaceAll s [a] new = s.flatMap fun c => if c = a then new else [c] := by
  induction s with
  | nil => exact rep_nil (by simp) hn
  | cons c s ih =>
    by_cases h : c = a
    · subst h
      rw [show c :: s = [c] ++ s from rfl, rep_hit (by simp) hn, ih]
      simp
    · rw [rep_miss (by simp) hn (by simp [List.isPrefixOf, Ne.symm h]), ih]
      simp [h]
/-- What escaped tells. -/
theorem escaped_eq (n : List UInt8) : replaceAll (replaceAll n [126] [126, 48]) [47] [126, 49] = name n := by
  rw [rep_one (by decide), rep_one (by decide)]
  induction n with
  | nil => rfl
  | cons c n ih =>
    have e : name (c :: n) = esc c ++ name n := by simp [name]
    rw [e, ← ih, List.flatMap_cons, List.flatMap_append]
    congr 1
    unfold esc
    by_cases h1 : c = 126
    · subst h1; decide
    · rw [if_neg h1, if_neg h1]
      by_cases h2 : c = 47
      · subst h2; decide
      · rw [if_neg h2]; simp [h2]
theorem count_esc (n : List UInt8) : Lib.count n [126] ≤ n.length := by rw [count_one]; exact List.count_le_length
theorem esc1_len (n : List UInt8) : (replaceAll n [126] [126, 48]).length ≤ 2 * n.length := by
  rw [rep_one (by decide)]
  induction n with
  | nil => simp
  | cons c n ih =>
    rw [List.flatMap_cons, List.length_append, List.length_cons]
    have h2 : (if c = 126 then [126, 48] else [c] : List UInt8).length ≤ 2 := by split <;> simp
    omega

theorem pre_no {a b c : UInt8} {s : List UInt8} (h : c ≠ a) : ([a, b] : List UInt8).isPrefixOf (c :: s) = false := by
  simp [List.isPrefixOf, Ne.symm h]
/-- The first of plain's two. -/
def half : List UInt8 → List UInt8
  | [] => []
  | c :: n => (if c = 126 then [126, 48] else [c]) ++ half n
theorem half_eq (n : List UInt8) : replaceAll (name n) [126, 49] [47] = half n := by
  induction n with
  | nil => exact rep_nil (by simp) (by decide)
  | cons c n ih =>
    have e : name (c :: n) = esc c ++ name n := by simp [name]
    rw [e, half, ← ih]
    unfold esc
    by_cases h1 : c = 126
    · subst h1
      rw [if_pos rfl, if_pos rfl]
      show replaceAll (126 :: 48 :: name n) _ _ = 126 :: 48 :: _
      rw [rep_miss (by simp) (by decide) (by rw [pre_two]; decide), rep_miss (by simp) (by decide) (pre_no (by decide))]; rfl
    · rw [if_neg h1, if_neg h1]
      by_cases h2 : c = 47
      · subst h2
        rw [if_pos rfl, rep_hit (by simp) (by decide)]
      · rw [if_neg h2]
        show replaceAll (c :: name n) _ _ = c :: _
        rw [rep_miss (by simp) (by decide) (pre_no h1)]; rfl
theorem half_len (n : List UInt8) : (half n).length ≤ 2 * n.length := by
  induction n with
  | nil => simp [half]
  | cons c n ih => rw [half, List.length_append, List.length_cons]; split <;> simp <;> omega
theorem whole_eq (n : List UInt8) : replaceAll (half n) [126, 48] [126] = n := by
  induction n with
  | nil => exact rep_nil (by simp) (by decide)
  | cons c n ih =>
    rw [half]
    by_cases h1 : c = 126
    · subst h1
      rw [if_pos rfl, rep_hit (by simp) (by decide), ih]; rfl
    · rw [if_neg h1]
      show replaceAll (c :: half n) _ _ = _
      rw [rep_miss (by simp) (by decide) (pre_no h1), ih]
/-- What plain tells. -/
theorem plain_eq (n : List UInt8) : replaceAll (replaceAll (name n) [126, 49] [47]) [126, 48] [126] = n := by
  rw [half_eq, whole_eq]

/-! What Split tells of a pointer's text, behind its first sign. -/
theorem name_no47 (n : List UInt8) : 47 ∉ name n := by
  intro h
  obtain ⟨c, _, hc⟩ := List.mem_flatMap.1 h
  unfold esc at hc
  split at hc
  · simp at hc
  · split at hc
    · simp at hc
    · rename_i h1; simp at hc; exact h1 hc.symm
theorem count_none {a : List UInt8} (h : 47 ∉ a) : Lib.count a [47] = 0 := by rw [count_one]; exact List.count_eq_zero.2 h
theorem index_at (a b : List UInt8) (h : 47 ∉ a) : Lib.index (a ++ 47 :: b) [47] = (a.length : Nat) := by
  induction a with
  | nil =>
    rw [List.nil_append, Lib.index, if_pos (by simp [List.isPrefixOf])]; rfl
  | cons c a ih =>
    have hc : c ≠ 47 := fun e => h (by simp [e])
    rw [List.cons_append, Lib.index, if_neg (by simp [List.isPrefixOf, Ne.symm hc]), ih (fun e => h (by simp [e]))]
    rw [if_neg (by rw [beq_iff_eq]; omega)]
    simp
theorem split_last {a : List UInt8} (h : 47 ∉ a) : splitK [47] 0 (Lib.count a [47]) a = [a] := by rw [count_none h]; rfl
theorem splitK_hit (save k : Nat) (s : List UInt8) (i : Nat) (h : Lib.index s [47] = i) : splitK [47] save (k + 1) s = s.take (i + save) :: splitK [47] save k (s.drop (i + 1)) := by
  have hm : ¬ (Lib.index s [47] == -1) = true := fun e => by have := beq_iff_eq.1 e; omega
  have e : (Lib.index s [47]).toNat = i := by omega
  rw [splitK, if_neg hm, e]; rfl
theorem split_more (a b : List UInt8) (h : 47 ∉ a) : splitK [47] 0 (Lib.count (a ++ 47 :: b) [47]) (a ++ 47 :: b) = a :: splitK [47] 0 (Lib.count b [47]) b := by
  have hx := index_at a b h
  rw [count_hit (by simp) hx, Nat.add_comm, splitK_hit _ _ _ _ hx]
  have hd : (a ++ 47 :: b).drop (a.length + 1) = b := by
    rw [show a ++ 47 :: b = (a ++ [47]) ++ b by simp, show a.length + 1 = (a ++ [47]).length by simp, List.drop_left]
  simp only [List.length_singleton] at *
  rw [hd]
  simp
theorem split_text (n : List UInt8) (l : List (List UInt8)) : splitK [47] 0 (Lib.count (name n ++ text l) [47]) (name n ++ text l) = name n :: l.map name := by
  induction l generalizing n with
  | nil =>
    have e : text ([] : List (List UInt8)) = [] := rfl
    rw [e, List.append_nil, split_last (name_no47 n)]; rfl
  | cons m l ih =>
    rw [text_cons, split_more _ _ (name_no47 n), ih]; rfl

/-! The first ~ that stands for nothing. -/
def loose : List UInt8 → Nat → Option Nat
  | [], _ => none
  | c :: t, i => if c = 126 ∧ t.head? ≠ some 48 ∧ t.head? ≠ some 49 then some i else loose t (i + 1)
theorem loose_cons (c : UInt8) (t : List UInt8) (i : Nat) : loose (c :: t) i = if c = 126 ∧ t.head? ≠ some 48 ∧ t.head? ≠ some 49 then some i else loose t (i + 1) := rfl
theorem go_loose : ∀ (k : Nat) (t : List UInt8), t.length ≤ k → ∀ (i : Nat) (l : List (List UInt8)), (loose t i = none → ∃ r, go t i l = .ok r) ∧ (∀ p, loose t i = some p → go t i l = .bad p)
  | k, [], _, i, l => ⟨fun _ => ⟨l, rfl⟩, fun p h => by cases h⟩
  | 0, c :: t, hk, _, _ => by simp at hk
  | k + 1, c :: t, hk, i, l => by
    simp only [List.length_cons] at hk
    rw [loose_cons, go_cons]
    by_cases h1 : c = 47
    · rw [if_pos h1, if_neg (by rw [h1]; rintro ⟨h, _⟩; exact absurd h (by decide))]
      exact go_loose k t (by omega) _ _
    · rw [if_neg h1]
      by_cases h2 : c = 126
      · rw [if_pos h2]
        cases t with
        | nil =>
          rw [if_pos ⟨h2, by simp, by simp⟩]
          exact ⟨(fun h => by cases h), fun p h => by injection h with h; rw [h]⟩
        | cons d t =>
          simp only [List.length_cons] at hk
          simp only
          by_cases d1 : d = 48
          · subst d1
            rw [if_pos rfl, if_neg (by simp), loose_cons, if_neg (by rintro ⟨h, _⟩; exact absurd h (by decide))]
            exact go_loose k t (by omega) _ _
          · by_cases d2 : d = 49
            · subst d2
              rw [if_neg d1, if_pos rfl, if_neg (by simp), loose_cons, if_neg (by rintro ⟨h, _⟩; exact absurd h (by decide))]
              exact go_loose k t (by omega) _ _
            · rw [if_neg d1, if_neg d2, if_pos ⟨h2, by simpa using d1, by simpa using d2⟩]
              exact ⟨(fun h => by cases h), fun p h => by injection h with h; rw [h]⟩
      · rw [if_neg h2, if_neg (fun h => h2 h.1)]
        exact go_loose k t (by omega) _ _
/-- What Parse comes to: nothing, no sign ahead, a ~ that stands for nothing, or names. -/
theorem parse_loose (t : List UInt8) (p : Nat) (h : loose (47 :: t) 0 = some p) : parse (47 :: t) = .bad p := by
  show (if (47 : UInt8) = 47 then go (47 :: t) 0 [] else Res.bad 0) = _
  rw [if_pos rfl]; exact (go_loose _ _ (Nat.le_refl _) 0 []).2 p h
theorem parse_tight (t : List UInt8) (h : loose (47 :: t) 0 = none) : ∃ n l, parse (47 :: t) = .ok (n :: l) ∧ t = name n ++ text l ∧ l.length ≤ t.length := by
  obtain ⟨r, hr⟩ := (go_loose _ (47 :: t) (Nat.le_refl _) 0 []).1 h
  have hp : parse (47 :: t) = .ok r := by
    show (if (47 : UInt8) = 47 then go (47 :: t) 0 [] else Res.bad 0) = _
    rw [if_pos rfl]; exact hr
  have hb := parse_back hp
  cases r with
  | nil => have := hb.1; cases this
  | cons n l =>
    have h1 := hb.1
    rw [text_cons] at h1
    injection h1 with _ h1
    have h2 := hb.2
    simp only [List.length_cons] at h2
    exact ⟨n, l, hp, h1.symm, by omega⟩
theorem loose_ge : ∀ (t : List UInt8) (i p : Nat), loose t i = some p → i ≤ p ∧ p < i + t.length
  | [], i, p, h => by cases h
  | c :: t, i, p, h => by
    rw [loose_cons] at h
    split at h
    · injection h with h; subst h; simp
    · have := loose_ge t _ _ h; simp only [List.length_cons]; omega

/-! A name as a place. -/
def placeOf (nm : List UInt8) : Nat × Bool := if nm = [] ∨ 18 < nm.length ∨ (nm.head? = some 48 ∧ nm ≠ [48]) ∨ ¬ (nm.all Nm.dig = true) then (0, false) else (Nm.val nm, true)
theorem lead_iff (nm : List UInt8) : (nm.head? = some 48 ∧ nm ≠ [48]) ↔ (1 < nm.length ∧ nm.head? = some 48) := by
  rcases nm with _ | ⟨c, _ | ⟨d, r⟩⟩
  · simp
  · simp
  · simp
theorem index_place (nm : List UInt8) (n : Nat) (e : Bool) (h0 : ¬ (e = true ∧ nm = [45])) :
    index nm n e = if (placeOf nm).2 = true ∧ ((placeOf nm).1 < n ∨ ((placeOf nm).1 = n ∧ e = true)) then ((placeOf nm).1, true) else (0, false) := by
  unfold index placeOf
  rw [if_neg h0]
  by_cases h1 : nm = [] ∨ ¬ (nm.all Nm.dig = true) ∨ (1 < nm.length ∧ nm.head? = some 48) ∨ 18 < nm.length
  · rw [if_pos h1]
    have h2 : nm = [] ∨ 18 < nm.length ∨ (nm.head? = some 48 ∧ nm ≠ [48]) ∨ ¬ (nm.all Nm.dig = true) := by
      rcases h1 with h | h | h | h
      · exact .inl h
      · exact .inr (.inr (.inr h))
      · exact .inr (.inr (.inl ((lead_iff nm).2 h)))
      · exact .inr (.inl h)
    rw [if_pos h2, if_neg (by simp)]
  · rw [if_neg h1]
    have h2 : ¬ (nm = [] ∨ 18 < nm.length ∨ (nm.head? = some 48 ∧ nm ≠ [48]) ∨ ¬ (nm.all Nm.dig = true)) := by
      rintro (h | h | h | h)
      · exact h1 (.inl h)
      · exact h1 (.inr (.inr (.inr h)))
      · exact h1 (.inr (.inr (.inl ((lead_iff nm).1 h))))
      · exact h1 (.inr (.inl h))
    rw [if_neg h2]
    simp

end Go.Proofs.YtccacjkogdmleaaDoor.Pt

/- The walks of layer 6 (ptr): the program's place and Index. -/
namespace Go.Proofs.YtccacjkogdmleaaDoor
open Go.RowKit Pt

/-- A text's bytes, in a row of their own. -/
theorem bytes_of (s : List UInt8) (w : World) : ∃ (cap : Nat) (w2 : World), (convert 9 34 (.string ⟨s.toArray⟩)).run Tryd.prog w = .ok (.slice (some ⟨w.heap.size, 0, none⟩) s.length cap) w2 ∧ Below w.heap.size w w2 ∧
    ∀ j (hj : j < s.length), w2.cell? ⟨w.heap.size, j, none⟩ = some (.int .u8 s[j].toNat) := by
  have h := Lib.run_convert_string_bytes w 9 34 5 ⟨s.toArray⟩ Tryd.underlying9 Tryd.underlying34 Tryd.underlying5
  rw [Lib.size_mk] at h
  refine ⟨_, _, h, ⟨rfl, rfl, rfl, by rw [Lib.bytesWorld_size]; omega, fun j hj => Lib.bytesWorld_at_old w _ _ j hj⟩, fun j hj => ?_⟩
  rw [Lib.bytesWorld_cell w _ _ j (by rw [Lib.size_mk]; exact hj)]
  have e : (⟨s.toArray⟩ : ByteArray).data.toList.getD j 0 = s[j] := by
    show s.getD j 0 = s[j]
    simp [List.getD, hj]
  rw [e]

/-- How far place has come. -/
def Placing (nm : List UInt8) (w : World) (k i : Value) (wr : World) : Prop :=
  ∃ j : Nat, j ≤ nm.length ∧ i = .int .i64 j ∧ k = .int .i64 (Nm.val (nm.take j)) ∧ (nm.take j).all Nm.dig = true ∧ wr = w

theorem all_take (nm : List UInt8) (j : Nat) (h : j < nm.length) : (nm.take (j + 1)).all Nm.dig = ((nm.take j).all Nm.dig && Nm.dig nm[j]) := by
  rw [List.take_succ_eq_append_getElem h, List.all_append]; simp
theorem val_snoc9 (nm : List UInt8) (h : nm.all Nm.dig = true) (hl : nm.length ≤ 17) : Nm.val nm < 100000000000000000 := by
  have h1 := Nm.val_lt nm (fun c hc => (List.all_eq_true.1 h) c hc)
  have h3 : 10 ^ nm.length ≤ 10 ^ 17 := Nat.pow_le_pow_right (by omega) hl
  omega

/-- What place tells. -/
def PlacePost (nm : List UInt8) (w : World) (e : Ending) (w' : World) : Prop := e = .returned (.tuple #[.int .i64 (placeOf nm).1, .bool (placeOf nm).2]) ∧ Below w.heap.size w w'

end Go.Proofs.YtccacjkogdmleaaDoor

/- The walks of layer 6 (ptr): the program's findLoose, plain, escaped; Split at a pointer's text. -/
namespace Go.Proofs.YtccacjkogdmleaaDoor
open Go.RowKit Pt

/-- The library's own variable holds some number. -/
def MaxT (w : World) : Prop := ∃ m : Int, w.cell? ⟨0, 0, none⟩ = some (.int .i64 m)
theorem MaxT.on {w w' : World} (h : MaxT w) (hb : Below w.heap.size w w') : MaxT w' := by
  obtain ⟨m, hm⟩ := h
  exact ⟨m, le_below hb _ _ hm⟩
theorem MaxT.keep {B : Nat} {w w' : World} (h : MaxT w) (hb : Below B w w') (hB : w.heap.size ≤ B) : MaxT w' := h.on (hb.mono hB)

theorem repl_on (s old new : List UInt8) (q : List UInt8) (hq : Lib.replaceAll s old new = q) (w : World) (hT : MaxT w) (hs : s.length ≤ 100000000) (h1 : old ≠ []) (h2 : new.length ≤ 2) :
    Calls Tryd.prog 30 #[.string ⟨s.toArray⟩, .string ⟨old.toArray⟩, .string ⟨new.toArray⟩] w fun e w' => e = .returned (.string ⟨q.toArray⟩) ∧ Below w.heap.size w w' := by
  obtain ⟨m, hm⟩ := hT
  subst hq
  have hl : (⟨s.toArray⟩ : ByteArray).size = s.length := Lib.size_mk s
  have ho : 1 ≤ (⟨old.toArray⟩ : ByteArray).size := by rw [Lib.size_mk]; exact List.length_pos_iff.2 h1
  have hc := Lib.countB_le ⟨old.toArray⟩ ho s.length ⟨s.toArray⟩ (by omega)
  have hn : (⟨new.toArray⟩ : ByteArray).size ≤ 2 := by rw [Lib.size_mk]; exact h2
  have hmul := Nat.mul_le_mul hc hn
  exact Tryd.strings_ReplaceAll ⟨s.toArray⟩ ⟨old.toArray⟩ ⟨new.toArray⟩ m w (by omega) hm ho (by omega)

set_option linter.unusedSimpArgs false in
set_option linter.unusedVariables false in
set_option maxRecDepth 100000 in
set_option maxHeartbeats 1000000 in
theorem escaped_any (n : List UInt8) (w : World) (hT : MaxT w) (hs : n.length ≤ 10000000) :
    Calls Tryd.prog 23 #[.string ⟨n.toArray⟩] w fun e w' => e = .returned (.string ⟨(name n).toArray⟩) ∧ Below w.heap.size w w' := by
  have hh := esc1_len n
  have H1 := Lib.hid (repl_on n [126] [126, 48] _ rfl w hT (by omega) (by simp) (by simp))
  have H2 := Lib.hid (fun W hT => repl_on (Lib.replaceAll n [126] [126, 48]) [47] [126, 49] (name n) (escaped_eq n) W hT (by omega) (by simp) (by simp))
  have HT := Lib.hid hT
  clear hT
  generalize Lib.replaceAll n [126] [126, 48] = h at *
  go_enter Tryd.func23, Tryd.ntmps23
  go_wp2_with fail
  refine H1.out.mono ?_
  rintro e w1 ⟨rfl, hb1⟩
  go_wp2_with fail
  refine (H2.out _ (HT.out.on hb1)).mono ?_
  rintro e w2 ⟨rfl, hb2⟩
  go_wp2_with fail
  go_ret
  exact ⟨rfl, hb1.trans (hb2.mono hb1.size)⟩

/-- How far findLoose has come. -/
def Loosing (t : List UInt8) (w : World) (v : Value) (wr : World) : Prop :=
  ∃ j : Nat, j ≤ t.length ∧ v = .int .i64 j ∧ loose t 0 = loose (t.drop j) j ∧ wr = w

end Go.Proofs.YtccacjkogdmleaaDoor

/- The walks of layer 6 (ptr): the program's Parse. -/
namespace Go.Proofs.YtccacjkogdmleaaDoor
open Go.RowKit Pt
theorem strs_at {w : World} {g : Nat} {l : List (List UInt8)} (h : Blk w g 9 (strs l).toArray) : Strs w.cell? (some ⟨g, 0, none⟩) l := fun i n hi => by
  refine ⟨g, 0, rfl, ?_⟩
  rw [h.cell, Nat.zero_add]
  simp [strs, hi]
theorem strs_new {w : World} {g B : Nat} {l : List (List UInt8)} (h : Blk w g 9 (strs l).toArray) (hB : B ≤ g) : Strs (w.on (B ≤ ·)) (some ⟨g, 0, none⟩) l := fun i n hi => by
  refine ⟨g, 0, rfl, on_some.2 ⟨hB, ?_⟩⟩
  rw [h.cell, Nat.zero_add]
  simp [strs, hi]
/-- Names, half of them plain. -/
def mixed (l : List (List UInt8)) (j : Nat) : List (List UInt8) := l.take j ++ (l.drop j).map name
theorem mixed_length (l : List (List UInt8)) (j : Nat) : (mixed l j).length = l.length := by
  simp [mixed]; omega
theorem mixed_now (l : List (List UInt8)) (j : Nat) (h : j < l.length) : mixed l j = l.take j ++ name l[j] :: (l.drop (j + 1)).map name := by
  unfold mixed; rw [List.drop_eq_getElem_cons h, List.map_cons]
theorem mixed_next (l : List (List UInt8)) (j : Nat) (h : j < l.length) : mixed l (j + 1) = l.take j ++ l[j] :: (l.drop (j + 1)).map name := by
  unfold mixed; rw [List.take_succ_eq_append_getElem h, List.append_assoc]; rfl
theorem mixed_at (l : List (List UInt8)) (j : Nat) (h : j < l.length) : (strs (mixed l j))[j]? = some (.string ⟨(name l[j]).toArray⟩) := by
  have hl : (strs (l.take j)).length = j := by simp [strs]; omega
  rw [mixed_now l j h, strs_append, List.getElem?_append_right (by omega), hl, Nat.sub_self]; rfl
theorem mixed_set (l : List (List UInt8)) (j : Nat) (h : j < l.length) : (strs (mixed l j)).set j (.string ⟨l[j].toArray⟩) = strs (mixed l (j + 1)) := by
  have hl : (strs (l.take j)).length = j := by simp [strs]; omega
  rw [mixed_now l j h, mixed_next l j h, strs_append, strs_append, List.set_append_right _ _ (by omega), hl, Nat.sub_self]; rfl
theorem mixed_zero (l : List (List UInt8)) : mixed l 0 = l.map name := by simp [mixed]
theorem mixed_all (l : List (List UInt8)) : mixed l l.length = l := by simp [mixed]

/-- How far Parse has come. -/
def Plaining (l : List (List UInt8)) (g : Nat) (w : World) (v : Value) (wr : World) : Prop :=
  ∃ j : Nat, j ≤ l.length ∧ v = .int .i64 j ∧ Blk wr g 9 (strs (mixed l j)).toArray ∧ Below w.heap.size w wr

theorem name_in (l : List (List UInt8)) (j : Nat) (h : j < l.length) : (name l[j]).length ≤ (text l).length := by
  have := text_take_len l j h
  omega

end Go.Proofs.YtccacjkogdmleaaDoor


