/- Plain mathematics of layer 2 (str), fifth part: the document's list of what may stand behind a backslash. -/
import Derived.Test.YtbcoakonjgakbaaDoorSb
namespace Go.Proofs.YtbcoakonjgakbaaDoor.St

abbrev frL : List UInt8 := [34, 92, 47, 98, 102, 110, 114, 116]
abbrev toL : List UInt8 := [34, 92, 47, 8, 12, 10, 13, 9]

/-- What the first k of the list tell of a byte. -/
def hit (d : UInt8) (k : Nat) : List UInt8 := ((frL.zip toL).take k).flatMap fun p => if p.1 = d then [p.2] else []

theorem hit_zero (d : UInt8) : hit d 0 = [] := rfl
theorem hit_next (d : UInt8) (k : Nat) (h : k < 8) : hit d (k + 1) = hit d k ++ if frL[k]'h = d then [toL[k]'h] else [] := by
  unfold hit
  rw [List.take_succ_eq_append_getElem (by simpa using h), List.flatMap_append, List.getElem_zip]
  simp
theorem hit_len (d : UInt8) : ∀ k, (hit d k).length ≤ k
  | 0 => by simp [hit]
  | k + 1 => by
    by_cases h : k < 8
    · rw [hit_next d k h, List.length_append]
      have := hit_len d k
      split <;> simp <;> omega
    · have e : hit d (k + 1) = hit d k := by
        unfold hit
        rw [List.take_of_length_le (by simp; omega), List.take_of_length_le (by simp; omega)]
      have := hit_len d k
      rw [e]; omega

theorem hit_all (d : UInt8) : hit d 8 = match simple d with
    | some r => Lib.encodeRune (r : Int)
    | none => [] := by
  unfold simple
  by_cases h1 : d = 34
  · subst h1; rfl
  by_cases h2 : d = 92
  · subst h2; rfl
  by_cases h3 : d = 47
  · subst h3; rfl
  by_cases h4 : d = 98
  · subst h4; rfl
  by_cases h5 : d = 102
  · subst h5; rfl
  by_cases h6 : d = 110
  · subst h6; rfl
  by_cases h7 : d = 114
  · subst h7; rfl
  by_cases h8 : d = 116
  · subst h8; rfl
  simp only [if_neg h1, if_neg h2, if_neg h3, if_neg h4, if_neg h5, if_neg h6, if_neg h7, if_neg h8]
  simp [hit, Ne.symm h1, Ne.symm h2, Ne.symm h3, Ne.symm h4, Ne.symm h5, Ne.symm h6, Ne.symm h7, Ne.symm h8]

theorem chr_esc {d : UInt8} {u : List UInt8} (h : ¬ d = 117) : chr (92 :: d :: u) = match simple d with
    | some r => .ok r 2
    | none => .bad 1 1 := by
  rw [chr_cons]
  rw [if_neg (by decide), if_pos rfl]
  rw [esc_cons]
  cases simple d with
  | some r => rfl
  | none => simp only; rw [if_neg h]
theorem chr_num (u : List UInt8) : chr (92 :: 117 :: u) = num u := by
  rw [chr_cons]
  rw [if_neg (by decide), if_pos rfl]
  rfl

end Go.Proofs.YtbcoakonjgakbaaDoor.St
