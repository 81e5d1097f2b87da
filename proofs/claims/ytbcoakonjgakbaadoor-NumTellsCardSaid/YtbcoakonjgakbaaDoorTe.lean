/- The walks of the document's answers of layer 1, fifth part: End. -/
import Derived.Test.YtbcoakonjgakbaaDoorTd
import Derived.Test.YtbcoakonjgakbaaDoorPurei
namespace Go.Proofs.YtbcoakonjgakbaaDoor
open Go.RowKit

/-- A place in a text, and what stands from it on. -/
def From (s : ByteArray) (a : Int) (t : List UInt8) : Prop := 0 ≤ a ∧ a ≤ s.size ∧ s.data.toList.drop a.toNat = t

theorem From.some {s : ByteArray} {a : Int} {c : UInt8} {r : List UInt8} (h : From s a (c :: r)) : a < s.size ∧ (∀ h, s[a.toNat]'h = c) ∧ From s (a + 1) r := by
  obtain ⟨h0, h1, h2⟩ := h
  have hlt : a.toNat < s.data.toList.length := by
    rcases Nat.lt_or_ge a.toNat s.data.toList.length with h | h
    · exact h
    · rw [List.drop_eq_nil_of_le h] at h2; cases h2
  have he := List.drop_eq_getElem_cons hlt
  rw [h2] at he
  have hlt' : a.toNat < s.size := by rw [Lib.size_eq]; exact hlt
  refine ⟨by omega, fun h => ?_, by omega, by omega, ?_⟩
  · exact (List.cons.inj he).1.symm
  · rw [show (a + 1).toNat = a.toNat + 1 from by omega]; exact (List.cons.inj he).2.symm
theorem From.none {s : ByteArray} {a : Int} (h : From s a []) : ¬ a < s.size := by
  obtain ⟨h0, h1, h2⟩ := h
  have := congrArg List.length h2
  rw [List.length_drop, ← Lib.size_eq] at this
  simp at this
  omega
theorem From.more {s : ByteArray} {a : Int} {t : List UInt8} (h : From s a t) (n : Nat) (hn : n ≤ t.length) : From s (a + n) (t.drop n) := by
  obtain ⟨h0, h1, h2⟩ := h
  have := congrArg List.length h2
  rw [List.length_drop, ← Lib.size_eq] at this
  refine ⟨by omega, by omega, ?_⟩
  rw [show (a + n).toNat = a.toNat + n from by omega, ← List.drop_drop, h2]
theorem From.digits {s : ByteArray} {a : Int} {t : List UInt8} (h : From s a t) : From s (a + ((Nm.pre t).length : Nat)) (Nm.suf t) := by
  have := h.more (Nm.pre t).length (Nm.pre_len t)
  have e : t.drop (Nm.pre t).length = Nm.suf t := by
    have h2 := Nm.pre_suf t
    have h3 : (Nm.pre t ++ Nm.suf t).drop (Nm.pre t).length = Nm.suf t := List.drop_left
    rw [h2] at h3
    exact h3
  rw [e] at this
  exact this
theorem From.at_eq {s : ByteArray} {a : Int} {t : List UInt8} (h : From s a t) : a = (s.size : Int) - t.length := by
  obtain ⟨h0, h1, h2⟩ := h
  have := congrArg List.length h2
  rw [List.length_drop, ← Lib.size_eq] at this
  omega

theorem run_from {s : ByteArray} {a : Int} {t : List UInt8} (h : From s a t) (hs : s.size ≤ 4000000000000000000) (w : World) :
    Calls Tryd.prog 55 #[.string s, .int .i64 a] w fun e w' => e = .returned (.int .i64 (Nm.pre t).length) ∧ w = w' := by
  have := run_any s a w hs h.1 h.2.1
  rw [h.2.2] at this
  exact this

end Go.Proofs.YtbcoakonjgakbaaDoor
