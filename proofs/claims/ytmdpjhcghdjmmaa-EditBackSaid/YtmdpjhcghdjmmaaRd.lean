/- The program's mayNumber. -/
import Derived.Test.YtmdpjhcghdjmmaaMf
import Derived.Test.YtmdpjhcghdjmmaaWg
import Derived.Test.YtmdpjhcghdjmmaaMa
namespace Go.Proofs.Ytmdpjhcghdjmmaa
open Go.RowKit Js

/-- A number may be, if its digits, read, are themselves. -/
theorem mayNum_parse (neg : Bool) (d : List UInt8) (x : Int) (h : d ≠ []) :
    mayNum ⟨neg, d, x⟩ = (decide ((Nm.parse d).2 = 0) && decide ((Nm.parse d).1 = ⟨false, d, 0⟩) && decide (-1000 ≤ x) && decide (x ≤ 1000)) := by
  rw [Bool.eq_iff_iff]
  simp only [Bool.and_eq_true, decide_eq_true_eq]
  constructor
  · intro hm
    rcases mayNum_May hm with e | ⟨h0, h1, h2, h3, h4, h5, h6⟩
    · injection e with e1 e2; exact absurd e2 h
    · have hp := Nm.parse_text ⟨false, d, 0⟩ (.inr ⟨h0, h1, h2, h3, h4, by show (-1000 : Int) ≤ 0; omega, by show (0 : Int) ≤ 1000; omega⟩)
      have ht : Nm.text ⟨false, d, 0⟩ = d := by
        unfold Nm.text
        simp [h]
      rw [ht] at hp
      exact ⟨⟨⟨by rw [hp], by rw [hp]⟩, h5⟩, h6⟩
  · rintro ⟨⟨⟨h1, h2⟩, h5⟩, h6⟩
    have hm := Nm.parse_may d
    rw [h2] at hm
    rcases hm with e | ⟨g0, g1, g2, g3, g4, _, _⟩
    · injection e with e1 e2; exact absurd e2 h
    · exact May_mayNum (.inr ⟨g0, g1, g2, g3, g4, h5, h6⟩)

end Go.Proofs.Ytmdpjhcghdjmmaa

