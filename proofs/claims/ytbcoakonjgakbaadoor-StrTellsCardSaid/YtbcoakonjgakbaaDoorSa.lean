/- Plain mathematics of layer 2 (str), first part: characters of UTF-8, digits of 16, what stands in quotes. No program is imported. -/
import Derived.Lib.RuneBytes
namespace Go.Proofs.YtbcoakonjgakbaaDoor.St

/-- Of how many bytes a character is that n bytes begin with, the first ones being b0 .. b3; 0: there is none. -/
def width (n b0 b1 b2 b3 : Nat) : Nat :=
  if b0 < 128 then (if 0 < n then 1 else 0)
  else if b0 < 192 then 0
  else if b0 < 224 then (if 1 < n ∧ (128 ≤ b1 ∧ b1 < 192) ∧ 128 ≤ 64 * (b0 - 192) + (b1 - 128) then 2 else 0)
  else if b0 < 240 then (if 2 < n ∧ (128 ≤ b1 ∧ b1 < 192) ∧ (128 ≤ b2 ∧ b2 < 192) ∧ 2048 ≤ 4096 * (b0 - 224) + 64 * (b1 - 128) + (b2 - 128) ∧
      (4096 * (b0 - 224) + 64 * (b1 - 128) + (b2 - 128) < 55296 ∨ 57344 ≤ 4096 * (b0 - 224) + 64 * (b1 - 128) + (b2 - 128)) then 3 else 0)
  else if b0 < 248 then (if 3 < n ∧ (128 ≤ b1 ∧ b1 < 192) ∧ (128 ≤ b2 ∧ b2 < 192) ∧ (128 ≤ b3 ∧ b3 < 192) ∧ 65536 ≤ 262144 * (b0 - 240) + 4096 * (b1 - 128) + 64 * (b2 - 128) + (b3 - 128) ∧
      262144 * (b0 - 240) + 4096 * (b1 - 128) + 64 * (b2 - 128) + (b3 - 128) ≤ 1114111 then 4 else 0)
  else 0

/-- Its number. -/
def value (b0 b1 b2 b3 : Nat) : Nat :=
  if b0 < 128 then b0
  else if b0 < 224 then 64 * (b0 - 192) + (b1 - 128)
  else if b0 < 240 then 4096 * (b0 - 224) + 64 * (b1 - 128) + (b2 - 128)
  else 262144 * (b0 - 240) + 4096 * (b1 - 128) + 64 * (b2 - 128) + (b3 - 128)

def g (l : List UInt8) (k : Nat) : Nat := (l.getD k 0).toNat

theorem g_lt (l : List UInt8) (k : Nat) : g l k < 256 := (l.getD k 0).toNat_lt

/-- Of how many bytes the character is that a text begins with; its number. -/
def utf8 (l : List UInt8) : Nat := width l.length (g l 0) (g l 1) (g l 2) (g l 3)
def rune (l : List UInt8) : Nat := value (g l 0) (g l 1) (g l 2) (g l 3)

/-- May a number be a character's? -/
def scalar (r : Nat) : Prop := r < 55296 ∨ (57344 ≤ r ∧ r ≤ 1114111)

theorem width_le (n b0 b1 b2 b3 : Nat) : width n b0 b1 b2 b3 ≤ n ∧ width n b0 b1 b2 b3 ≤ 4 := by
  unfold width
  repeat' split
  all_goals omega

theorem utf8_le (l : List UInt8) : utf8 l ≤ l.length ∧ utf8 l ≤ 4 := width_le _ _ _ _ _

theorem width_scalar (n b0 b1 b2 b3 : Nat) (h0 : b0 < 256) (h : width n b0 b1 b2 b3 ≠ 0) : scalar (value b0 b1 b2 b3) := by
  unfold width at h
  unfold scalar value
  repeat' split at h
  all_goals first | (exact absurd rfl h) | (repeat' split) <;> omega

theorem rune_scalar (l : List UInt8) (h : utf8 l ≠ 0) : scalar (rune l) := width_scalar _ _ _ _ _ (g_lt l 0) h

/-- More bytes behind a character change nothing. -/
theorem utf8_append (l r : List UInt8) (h : utf8 l ≠ 0) : utf8 (l ++ r) = utf8 l ∧ rune (l ++ r) = rune l := by
  have gk : ∀ k, k < l.length → g (l ++ r) k = g l k := fun k hk => by simp [g, List.getElem?_append_left hk]
  unfold utf8 rune at *
  unfold width at h
  unfold width value
  rw [List.length_append]
  split at h
  · split at h
    · rw [gk 0 (by omega)]
      rename_i a b
      rw [if_pos a, if_pos (show 0 < l.length + r.length by omega), if_pos a, if_pos b, if_pos a, if_pos a]
      exact ⟨rfl, rfl⟩
    · exact absurd rfl h
  · split at h
    · exact absurd rfl h
    · split at h
      · split at h
        · rename_i a b c d
          rw [gk 0 (by omega), gk 1 (by omega)]
          rw [if_neg a, if_neg b, if_pos c, if_pos ⟨by omega, d.2⟩, if_neg a, if_neg b, if_pos c, if_pos d, if_neg a, if_pos c, if_neg a, if_pos c]
          exact ⟨rfl, rfl⟩
        · exact absurd rfl h
      · split at h
        · split at h
          · rename_i a b c d e
            rw [gk 0 (by omega), gk 1 (by omega), gk 2 (by omega)]
            rw [if_neg a, if_neg b, if_neg c, if_pos d, if_pos ⟨by omega, e.2⟩, if_neg a, if_neg b, if_neg c, if_pos d, if_pos e, if_neg a, if_neg c, if_pos d, if_neg a, if_neg c, if_pos d]
            exact ⟨rfl, rfl⟩
          · exact absurd rfl h
        · split at h
          · split at h
            · rename_i a b c d e f
              rw [gk 0 (by omega), gk 1 (by omega), gk 2 (by omega), gk 3 (by omega)]
              rw [if_neg a, if_neg b, if_neg c, if_neg d, if_pos e, if_pos ⟨by omega, f.2⟩, if_neg a, if_neg b, if_neg c, if_neg d, if_pos e, if_pos f]
              exact ⟨rfl, rfl⟩
            · exact absurd rfl h
          · exact absurd rfl h

theorem ofInt (b : UInt8) (x : Int) (h : x = b.toNat) : x.toNat.toUInt8 = b := by
  subst h
  rw [Int.toNat_natCast]
  exact UInt8.ofNat_toNat

theorem take_g1 (l : List UInt8) (h : 0 < l.length) : ∃ a, l.take 1 = [a] ∧ a.toNat = g l 0 := by
  match l, h with
  | a :: t, _ => exact ⟨a, rfl, rfl⟩
theorem take_g2 (l : List UInt8) (h : 1 < l.length) : ∃ a b, l.take 2 = [a, b] ∧ a.toNat = g l 0 ∧ b.toNat = g l 1 := by
  match l, h with
  | a :: b :: t, _ => exact ⟨a, b, rfl, rfl, rfl⟩
theorem take_g3 (l : List UInt8) (h : 2 < l.length) : ∃ a b c, l.take 3 = [a, b, c] ∧ a.toNat = g l 0 ∧ b.toNat = g l 1 ∧ c.toNat = g l 2 := by
  match l, h with
  | a :: b :: c :: t, _ => exact ⟨a, b, c, rfl, rfl, rfl, rfl⟩
theorem take_g4 (l : List UInt8) (h : 3 < l.length) : ∃ a b c d, l.take 4 = [a, b, c, d] ∧ a.toNat = g l 0 ∧ b.toNat = g l 1 ∧ c.toNat = g l 2 ∧ d.toNat = g l 3 := by
  match l, h with
  | a :: b :: c :: d :: t, _ => exact ⟨a, b, c, d, rfl, rfl, rfl, rfl, rfl⟩

/-- The ways that a character can be. -/
theorem utf8_cases (l : List UInt8) (h : utf8 l ≠ 0) :
    (utf8 l = 1 ∧ g l 0 < 128 ∧ rune l = g l 0 ∧ 0 < l.length) ∨
    (utf8 l = 2 ∧ 192 ≤ g l 0 ∧ g l 0 < 224 ∧ (128 ≤ g l 1 ∧ g l 1 < 192) ∧ rune l = 64 * (g l 0 - 192) + (g l 1 - 128) ∧ 128 ≤ rune l ∧ 1 < l.length) ∨
    (utf8 l = 3 ∧ 224 ≤ g l 0 ∧ g l 0 < 240 ∧ (128 ≤ g l 1 ∧ g l 1 < 192) ∧ (128 ≤ g l 2 ∧ g l 2 < 192) ∧ rune l = 4096 * (g l 0 - 224) + 64 * (g l 1 - 128) + (g l 2 - 128) ∧ 2048 ≤ rune l ∧ (rune l < 55296 ∨ 57344 ≤ rune l) ∧ 2 < l.length) ∨
    (utf8 l = 4 ∧ 240 ≤ g l 0 ∧ g l 0 < 248 ∧ (128 ≤ g l 1 ∧ g l 1 < 192) ∧ (128 ≤ g l 2 ∧ g l 2 < 192) ∧ (128 ≤ g l 3 ∧ g l 3 < 192) ∧ rune l = 262144 * (g l 0 - 240) + 4096 * (g l 1 - 128) + 64 * (g l 2 - 128) + (g l 3 - 128) ∧ 65536 ≤ rune l ∧ rune l ≤ 1114111 ∧ 3 < l.length) := by
  unfold utf8 rune at *
  unfold width at *
  unfold value
  generalize g l 0 = b0 at *
  generalize g l 1 = b1 at *
  generalize g l 2 = b2 at *
  generalize g l 3 = b3 at *
  generalize l.length = n at *
  split at h
  · split at h
    · rename_i a b
      left; simp [a, b]
    · exact absurd rfl h
  · split at h
    · exact absurd rfl h
    · split at h
      · split at h
        · rename_i a b c d
          right; left
          rw [if_neg a, if_neg b, if_pos c, if_pos d, if_neg a, if_pos c]
          omega
        · exact absurd rfl h
      · split at h
        · split at h
          · rename_i a b c d e
            right; right; left
            rw [if_neg a, if_neg b, if_neg c, if_pos d, if_pos e, if_neg a, if_neg c, if_pos d]
            omega
          · exact absurd rfl h
        · split at h
          · split at h
            · rename_i a b c d e f
              right; right; right
              rw [if_neg a, if_neg b, if_neg c, if_neg d, if_pos e, if_pos f, if_neg a, if_neg c, if_neg d]
              omega
            · exact absurd rfl h
          · exact absurd rfl h

/-- The bytes of a character's number are the character's own. -/
theorem encode_rune (l : List UInt8) (h : utf8 l ≠ 0) : Lib.encodeRune (rune l : Int) = l.take (utf8 l) := by
  unfold Lib.encodeRune
  rcases utf8_cases l h with ⟨e, h0, hr, hl⟩ | ⟨e, h0, h0', h1, hr, hr', hl⟩ | ⟨e, h0, h0', h1, h2, hr, hr', hs, hl⟩ | ⟨e, h0, h0', h1, h2, h3, hr, hr', hs, hl⟩
  · obtain ⟨a, ht, ha⟩ := take_g1 l hl
    rw [e, ht, Lib.encodeRuneZ_one (by omega) (by omega)]
    simp only [List.map_cons, List.map_nil]
    rw [ofInt a _ (by omega)]
  · obtain ⟨a, b, ht, ha, hb⟩ := take_g2 l hl
    rw [e, ht, Lib.encodeRuneZ_two (by omega) (by omega)]
    simp only [List.map_cons, List.map_nil]
    rw [ofInt a _ (by omega), ofInt b _ (by omega)]
  · obtain ⟨a, b, c, ht, ha, hb, hc⟩ := take_g3 l hl
    rw [e, ht, Lib.encodeRuneZ_three (by omega)]
    simp only [List.map_cons, List.map_nil]
    rw [ofInt a _ (by omega), ofInt b _ (by omega), ofInt c _ (by omega)]
  · obtain ⟨a, b, c, d, ht, ha, hb, hc, hd⟩ := take_g4 l hl
    rw [e, ht, Lib.encodeRuneZ_four (by omega) (by omega)]
    simp only [List.map_cons, List.map_nil]
    rw [ofInt a _ (by omega), ofInt b _ (by omega), ofInt c _ (by omega), ofInt d _ (by omega)]

/-- The bytes of a character's number are a character. -/
theorem utf8_encode (r : Nat) (h : scalar r) (t : List UInt8) : utf8 (Lib.encodeRune (r : Int) ++ t) = (Lib.encodeRune (r : Int)).length ∧ rune (Lib.encodeRune (r : Int) ++ t) = r := by
  unfold scalar at h
  have tn : ∀ x : Int, 0 ≤ x → x < 256 → (x.toNat.toUInt8).toNat = x.toNat := fun x h0 h1 => by
    rw [show x.toNat.toUInt8 = UInt8.ofNat x.toNat from rfl, UInt8.toNat_ofNat']; omega
  unfold Lib.encodeRune utf8 rune
  by_cases c1 : r < 128
  · rw [Lib.encodeRuneZ_one (by omega) (by omega)]
    have e0 : g (([(r : Int)].map fun x => x.toNat.toUInt8) ++ t) 0 = r := by simp only [List.map_cons, List.map_nil, g, List.cons_append, List.getD_cons_zero]; rw [tn _ (by omega) (by omega)]; omega
    rw [e0]
    simp [width, value, c1]
  · by_cases c2 : r < 2048
    · rw [Lib.encodeRuneZ_two (by omega) (by omega)]
      generalize ht : (([192 + (r : Int) / 64, 128 + (r : Int) % 64].map fun x => x.toNat.toUInt8) ++ t) = l
      have e0 : g l 0 = 192 + r / 64 := by rw [← ht]; simp only [List.map_cons, List.map_nil, g, List.cons_append, List.getD_cons_zero]; rw [tn _ (by omega) (by omega)]; omega
      have e1 : g l 1 = 128 + r % 64 := by rw [← ht]; simp only [List.map_cons, List.map_nil, g, List.cons_append, List.getD_cons_zero, List.getD_cons_succ]; rw [tn _ (by omega) (by omega)]; omega
      have el : 1 < l.length := by rw [← ht]; simp
      rw [e0, e1]
      simp only [List.length_map, List.length_cons, List.length_nil]
      unfold width value
      rw [if_neg (by omega), if_neg (by omega), if_pos (by omega), if_pos (by omega), if_neg (by omega), if_pos (by omega)]
      omega
    · by_cases c3 : r < 65536
      · rw [Lib.encodeRuneZ_three (by omega)]
        generalize ht : (([224 + (r : Int) / 4096, 128 + (r : Int) / 64 % 64, 128 + (r : Int) % 64].map fun x => x.toNat.toUInt8) ++ t) = l
        have e0 : g l 0 = 224 + r / 4096 := by rw [← ht]; simp only [List.map_cons, List.map_nil, g, List.cons_append, List.getD_cons_zero]; rw [tn _ (by omega) (by omega)]; omega
        have e1 : g l 1 = 128 + r / 64 % 64 := by rw [← ht]; simp only [List.map_cons, List.map_nil, g, List.cons_append, List.getD_cons_zero, List.getD_cons_succ]; rw [tn _ (by omega) (by omega)]; omega
        have e2 : g l 2 = 128 + r % 64 := by rw [← ht]; simp only [List.map_cons, List.map_nil, g, List.cons_append, List.getD_cons_zero, List.getD_cons_succ]; rw [tn _ (by omega) (by omega)]; omega
        have el : 2 < l.length := by rw [← ht]; simp
        rw [e0, e1, e2]
        simp only [List.length_map, List.length_cons, List.length_nil]
        unfold width value
        rw [if_neg (by omega), if_neg (by omega), if_neg (by omega), if_pos (by omega), if_pos (by omega), if_neg (by omega), if_neg (by omega), if_pos (by omega)]
        omega
      · rw [Lib.encodeRuneZ_four (by omega) (by omega)]
        generalize ht : (([240 + (r : Int) / 262144, 128 + (r : Int) / 4096 % 64, 128 + (r : Int) / 64 % 64, 128 + (r : Int) % 64].map fun x => x.toNat.toUInt8) ++ t) = l
        have e0 : g l 0 = 240 + r / 262144 := by rw [← ht]; simp only [List.map_cons, List.map_nil, g, List.cons_append, List.getD_cons_zero]; rw [tn _ (by omega) (by omega)]; omega
        have e1 : g l 1 = 128 + r / 4096 % 64 := by rw [← ht]; simp only [List.map_cons, List.map_nil, g, List.cons_append, List.getD_cons_zero, List.getD_cons_succ]; rw [tn _ (by omega) (by omega)]; omega
        have e2 : g l 2 = 128 + r / 64 % 64 := by rw [← ht]; simp only [List.map_cons, List.map_nil, g, List.cons_append, List.getD_cons_zero, List.getD_cons_succ]; rw [tn _ (by omega) (by omega)]; omega
        have e3 : g l 3 = 128 + r % 64 := by rw [← ht]; simp only [List.map_cons, List.map_nil, g, List.cons_append, List.getD_cons_zero, List.getD_cons_succ]; rw [tn _ (by omega) (by omega)]; omega
        have el : 3 < l.length := by rw [← ht]; simp
        rw [e0, e1, e2, e3]
        simp only [List.length_map, List.length_cons, List.length_nil]
        unfold width value
        rw [if_neg (by omega), if_neg (by omega), if_neg (by omega), if_neg (by omega), if_pos (by omega), if_pos (by omega), if_neg (by omega), if_neg (by omega), if_neg (by omega)]
        omega

/-- A text: characters, one behind the other. -/
inductive Txt : List UInt8 → Prop
  | nil : Txt []
  | cons (l : List UInt8) : utf8 l ≠ 0 → Txt (l.drop (utf8 l)) → Txt l

theorem Txt.append {a b : List UInt8} (ha : Txt a) (hb : Txt b) : Txt (a ++ b) := by
  induction ha with
  | nil => exact hb
  | cons l h _ ih =>
    have e := (utf8_append l b h).1
    refine .cons _ (by rw [e]; exact h) ?_
    rw [e, List.drop_append_of_le_length (utf8_le l).1]
    exact ih

theorem Txt.encode {r : Nat} (h : scalar r) : Txt (Lib.encodeRune (r : Int)) := by
  have e := (utf8_encode r h []).1
  rw [List.append_nil] at e
  have hl : 1 ≤ (Lib.encodeRune (r : Int)).length := by rw [← Lib.runeCells_length]; exact (Lib.runeCells_le _).1
  refine .cons _ (by omega) ?_
  rw [e, List.drop_length]
  exact .nil

/-- Is it a text? (With as many rounds as are told.) -/
def textGo : Nat → List UInt8 → Bool
  | _, [] => true
  | 0, _ :: _ => false
  | f + 1, c :: t => if utf8 (c :: t) = 0 then false else textGo f ((c :: t).drop (utf8 (c :: t)))
def text (l : List UInt8) : Bool := textGo l.length l

theorem textGo_txt : ∀ (f : Nat) (l : List UInt8), textGo f l = true → Txt l
  | _, [], _ => .nil
  | 0, _ :: _, h => by simp [textGo] at h
  | f + 1, c :: t, h => by
    unfold textGo at h
    split at h
    · cases h
    · rename_i hz
      exact .cons _ hz (textGo_txt f _ h)

theorem text_txt {l : List UInt8} (h : text l = true) : Txt l := textGo_txt _ _ h

end Go.Proofs.YtbcoakonjgakbaaDoor.St
