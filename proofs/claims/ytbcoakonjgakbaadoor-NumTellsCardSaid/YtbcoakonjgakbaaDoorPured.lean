/- Plain mathematics of layer 1 (num), fourth part: the document's example. -/
import Derived.Test.YtbcoakonjgakbaaDoorPurec
namespace Go.Proofs.YtbcoakonjgakbaaDoor.Nm

theorem parse_ex1 : parse [45, 48, 46, 49, 53, 48] = (⟨true, [49, 53], -2⟩, 0) := by decide
theorem parse_ex2 : parse [48, 49] = (Num.zero, 1) := by decide
theorem text_ex : text ⟨true, [49, 53], -2⟩ = [45, 49, 53, 101, 45, 50] := by
  have h : Lib.itoa (-2) = [45, 50] := by
    unfold Lib.itoa
    rw [if_pos (by decide), show (-2 : Int).natAbs = 2 from rfl, Lib.decDigits, dif_pos (by decide)]
    rfl
  simp [text, h]

end Go.Proofs.YtbcoakonjgakbaaDoor.Nm
