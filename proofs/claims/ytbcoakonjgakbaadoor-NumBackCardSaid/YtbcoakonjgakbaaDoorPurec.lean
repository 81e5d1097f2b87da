/- Plain mathematics of layer 1 (num), third part: Parse. -/
import Derived.Test.YtbcoakonjgakbaaDoorPureb
namespace Go.Proofs.YtbcoakonjgakbaaDoor.Nm

/-- A text's number, and an error's number: 0, 1 (no number's text), 5 (it may not be). -/
def parseOf (sp : Parts × Bool) : Num × Int :=
  if sp.2 then
    let n := normal sp.1.neg (sp.1.whole ++ sp.1.frac) (expOf sp.1 - sp.1.frac.length)
    if n.2 then (n.1, 0) else (Num.zero, 5)
  else (Num.zero, 1)
def parse (l : List UInt8) : Num × Int := parseOf (split l)

theorem parseOf_eq (a : Bool) (p1 p2 : List UInt8) (b : Bool) (p3 : List UInt8) : parseOf (⟨a, p1, p2, b, p3⟩, true) = if (normal a (p1 ++ p2) (expOf ⟨a, p1, p2, b, p3⟩ - p2.length)).2 then ((normal a (p1 ++ p2) (expOf ⟨a, p1, p2, b, p3⟩ - p2.length)).1, 0) else (Num.zero, 5) := rfl

theorem pre_dig (l : List UInt8) : ∀ c ∈ pre l, dig c = true := by
  induction l with
  | nil => intro c h; cases h
  | cons x r ih =>
    intro c h
    unfold pre at h
    rw [List.takeWhile_cons] at h
    split at h
    · rcases List.mem_cons.1 h with rfl | h'
      · assumption
      · exact ih c h'
    · cases h
theorem expOf_bd (a : Bool) (p1 p2 : List UInt8) (b : Bool) (p3 : List UInt8) (h : ∀ c ∈ p3, dig c = true) : -1099511627776 ≤ expOf ⟨a, p1, p2, b, p3⟩ ∧ expOf ⟨a, p1, p2, b, p3⟩ ≤ 1099511627776 := by
  have := expo_bd p3 h
  unfold expOf
  simp only
  split <;> omega
theorem pre_suf (l : List UInt8) : pre l ++ suf l = l := List.takeWhile_append_dropWhile

/-- What is known of the pieces. -/
def Sound (n : Nat) (p : Parts) : Prop := (∀ c ∈ p.exp, dig c = true) ∧ p.exp.length ≤ n ∧ p.whole.length + p.frac.length ≤ n

theorem zero_sound (n : Nat) : Sound n Parts.zero := ⟨fun _ h => (by cases h), Nat.zero_le _, Nat.zero_le _⟩
theorem tail_sound (n : Nat) (neg : Bool) (w f s : List UInt8) (h : w.length + f.length ≤ n) (hs : s.length ≤ n) : Sound n (tail neg w f s).1 := by
  unfold tail
  split
  · exact ⟨fun _ h => (by cases h), Nat.zero_le _, h⟩
  · rename_i c r
    split
    · refine ⟨pre_dig _, ?_, h⟩
      have h1 := pre_len (unsgn r)
      have h2 := unsgn_len r
      simp at hs ⊢
      omega
    · exact zero_sound n
theorem split_sound (l : List UInt8) : Sound l.length (split l).1 := by
  have h0 := trim_len l [45]
  have hp : ∀ t : List UInt8, (pre t).length + (suf t).length = t.length := fun t => by rw [← List.length_append, pre_suf]
  unfold split
  simp only
  generalize Lib.trimPrefix l [45] = s1 at h0 ⊢
  have h1 := hp s1
  split
  · exact zero_sound _
  · unfold afterWhole
    split
    · rename_i r e
      rw [e] at h1
      simp only [List.length_cons] at h1
      have h2 := hp r
      split
      · exact zero_sound _
      · exact tail_sound _ _ _ _ _ (by omega) (by omega)
    · exact tail_sound _ _ _ _ _ (by simp; omega) (by omega)

end Go.Proofs.YtbcoakonjgakbaaDoor.Nm
