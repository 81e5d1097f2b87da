/- Md: Si Re, in one text. -/
import Derived.Test.YtfolfibembplbaaDoorMb
import Derived.Lib.DecodeN
import Derived.Lib.TrimByte
import Derived.Shelf.Unicode.DecodeSlow
import Derived.Lib.ValidLaws
/- Plain mathematics of layer 2 (str), fourth part: Go's own way to tell a character is the document's. -/
namespace Go.Proofs.YtfolfibembplbaaDoor.St

set_option maxRecDepth 100000 in
set_option maxHeartbeats 4000000 in
theorem decodeN_eq (n b0 b1 b2 b3 : Nat) (hn : 1 ≤ n) (h0 : b0 < 256) (h1 : b1 < 256) (h2 : b2 < 256) (h3 : b3 < 256) :
    Lib.decodeN n b0 b1 b2 b3 = if width n b0 b1 b2 b3 = 0 then (65533, 1) else (value b0 b1 b2 b3, width n b0 b1 b2 b3) := by
  by_cases c1 : b0 < 128
  · have e : width n b0 b1 b2 b3 = 1 := width_low c1 (by omega)
    rw [e, if_neg (by decide)]
    unfold Lib.decodeN value
    rw [if_pos c1, if_pos c1]
  · by_cases c2 : b0 < 192
    · rw [width_none (by omega), if_pos rfl]
      unfold Lib.decodeN
      rw [if_neg c1, if_neg (by omega), if_neg (by omega), if_neg (by omega)]
    · by_cases c3 : b0 < 224
      · unfold Lib.decodeN width value
        simp only [if_neg c1, if_neg c2, if_pos c3]
        repeat' split
        all_goals first | rfl | (exfalso; omega) | (apply Prod.ext <;> simp only <;> omega)
      · by_cases c4 : b0 < 240
        · unfold Lib.decodeN width value
          simp only [if_neg c1, if_neg c2, if_neg c3, if_pos c4]
          repeat' split
          all_goals first | rfl | (exfalso; omega) | (apply Prod.ext <;> simp only <;> omega)
        · by_cases c5 : b0 < 248
          · unfold Lib.decodeN width value
            simp only [if_neg c1, if_neg c2, if_neg c3, if_neg c4, if_pos c5]
            repeat' split
            all_goals first | rfl | (exfalso; omega) | (apply Prod.ext <;> simp only <;> omega)
          · rw [width_none (by omega), if_pos rfl]
            unfold Lib.decodeN
            rw [if_neg c1, if_neg (by omega), if_neg (by omega), if_neg (by omega)]

theorem get_g (l : List UInt8) (k : Nat) : ((⟨l.toArray⟩ : ByteArray).get! k).toNat = g l k := by
  unfold g
  congr 1
  show l.toArray[k]! = _
  by_cases h : k < l.length
  · simp [h]
  · simp [h, List.getD_eq_getElem?_getD]
    rfl

theorem decode_eq (l : List UInt8) (h : l ≠ []) : Lib.decodeGo ⟨l.toArray⟩ = if utf8 l = 0 then (65533, 1) else (rune l, utf8 l) := by
  have hl : 1 ≤ l.length := by
    cases l with
    | nil => exact absurd rfl h
    | cons a t => simp
  unfold Lib.decodeGo
  rw [if_neg (by rw [Lib.size_mk]; omega), Lib.decode_at]
  simp only [Nat.sub_zero, Nat.zero_add, get_g]
  rw [Lib.size_mk, decodeN_eq _ _ _ _ _ hl (g_lt l 0) (g_lt l 1) (g_lt l 2) (g_lt l 3)]
  rfl

/-- What Go's own way tells where a character is none. -/
theorem decode_bad {l : List UInt8} (h : l ≠ []) (hu : utf8 l = 0) : Lib.decodeGo ⟨l.toArray⟩ = (65533, 1) := by
  rw [decode_eq l h, if_pos hu]
/-- .. and where there is one. -/
theorem decode_good {l : List UInt8} (h : l ≠ []) (hu : utf8 l ≠ 0) : Lib.decodeGo ⟨l.toArray⟩ = (rune l, utf8 l) ∧ (¬ rune l = 65533 ∨ ¬ utf8 l = 1) := by
  refine ⟨by rw [decode_eq l h, if_neg hu], ?_⟩
  rcases utf8_cases l hu with ⟨e, k0, hr, hl⟩ | ⟨e, k0, k0', k1, hr, hr', hl⟩ | ⟨e, k0, k0', k1, k2, hr, hr', hs, hl⟩ | ⟨e, k0, k0', k1, k2, k3, hr, hr', hs, hl⟩
  · left; omega
  all_goals right; omega

end Go.Proofs.YtfolfibembplbaaDoor.St

/- A text in the document's sense is what utf8.ValidString lets pass. -/
namespace Go.Proofs.YtfolfibembplbaaDoor
open Go.RowKit

theorem textGo_valid : ∀ (f : Nat) (l : List UInt8), l.length ≤ f → St.textGo f l = Lib.validD l
  | 0, [], _ => rfl
  | f + 1, [], _ => rfl
  | 0, c :: t, h => by simp at h
  | f + 1, c :: t, h => by
    rw [Lib.validD_step _ (by simp), Lib.decodeL_N]
    have hn : 1 ≤ (c :: t).length := by simp
    have hg : ∀ k, ((c :: t).getD k 0).toNat = St.g (c :: t) k := fun k => rfl
    rw [hg 0, hg 1, hg 2, hg 3]
    rw [St.decodeN_eq _ _ _ _ _ hn (St.g_lt (c :: t) 0) (St.g_lt (c :: t) 1) (St.g_lt (c :: t) 2) (St.g_lt (c :: t) 3)]
    unfold St.textGo
    have hw : St.width (c :: t).length (St.g (c :: t) 0) (St.g (c :: t) 1) (St.g (c :: t) 2) (St.g (c :: t) 3) = St.utf8 (c :: t) := rfl
    rw [hw]
    by_cases hz : St.utf8 (c :: t) = 0
    · rw [if_pos hz, if_pos hz]; simp
    · rw [if_neg hz, if_neg hz]
      have hne : ¬ (St.value (St.g (c :: t) 0) (St.g (c :: t) 1) (St.g (c :: t) 2) (St.g (c :: t) 3) = 65533 ∧ St.utf8 (c :: t) = 1) := by
        rintro ⟨h1, h2⟩
        rw [← hw] at h2
        have h0 : (St.g (c :: t) 0) < 128 := by
          unfold St.width at h2
          by_cases hb : (St.g (c :: t) 0) < 128
          · exact hb
          · rw [if_neg hb] at h2
            repeat' split at h2
            all_goals omega
        unfold St.value at h1
        rw [if_pos h0] at h1
        omega
      simp only
      rw [if_neg hne]
      exact textGo_valid f _ (by rw [List.length_drop]; simp only [List.length_cons] at h ⊢; omega)
theorem text_valid (l : List UInt8) : St.text l = Lib.validD l := textGo_valid _ l (Nat.le_refl _)

end Go.Proofs.YtfolfibembplbaaDoor


