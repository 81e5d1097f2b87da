/- The program's mayNumber. -/
import Derived.Test.YtfconmjgedaifaaDoorMf
import Derived.Test.YtfconmjgedaifaaDoorWg
import Derived.Test.YtfconmjgedaifaaDoorMa
namespace Go.Proofs.YtfconmjgedaifaaDoor
open Go.RowKit Js

/-- A number may be, if its digits, read, are themselves. -/
theorem mayNum_parse (neg : Bool) (d : List UInt8) (x : Int) (h : d ≠ []) :
    mayNum ⟨neg, d, x⟩ = (decide ((Nm.parse d).2 = 0) && decide ((Nm.parse d).1 = ⟨false, d, 0⟩) && decide (-1000 ≤ x) && decide (x ≤ 1000)) := by
  rw [Bool.eq_iff_iff]
  simp only [Bool.and_eq_true, decide_eq_true_eq]
  constructor
  · intro hm
    rcases mayNum_May hm with e | ⟨h0, h1, h2, h3, h4, h5, h6⟩
    · injection e with e1 e2; exact absurd e2 h
    · have hp := Nm.parse_text ⟨false, d, 0⟩ (.inr ⟨h0, h1, h2, h3, h4, by show (-1000 : Int) ≤ 0; omega, by show (0 : Int) ≤ 1000; omega⟩)
      have ht : Nm.text ⟨false, d, 0⟩ = d := by
        unfold Nm.text
        simp [h]
      rw [ht] at hp
      exact ⟨⟨⟨by rw [hp], by rw [hp]⟩, h5⟩, h6⟩
  · rintro ⟨⟨⟨h1, h2⟩, h5⟩, h6⟩
    have hm := Nm.parse_may d
    rw [h2] at hm
    rcases hm with e | ⟨g0, g1, g2, g3, g4, _, _⟩
    · injection e with e1 e2; exact absurd e2 h
    · exact May_mayNum (.inr ⟨g0, g1, g2, g3, g4, h5, h6⟩)

set_option linter.unusedVariables false in
set_option linter.unusedSimpArgs false in
set_option maxRecDepth 100000 in
set_option maxHeartbeats 2000000 in
theorem mayNumber_any (neg : Bool) (d : List UInt8) (x : Int) (hd : d.length ≤ 140737488355328) (w : World) :
    Calls Tryd.prog 89 #[.agg #[.bool neg, .string ⟨d.toArray⟩, .int .i64 x]] w fun e w' => e = .returned (.bool (mayNum ⟨neg, d, x⟩)) ∧ Below w.heap.size w w' := by
  cases d with
  | nil =>
    go_enter Tryd.func89, Tryd.ntmps89
    go_wp2_with fail
    all_goals
      go_ret
      refine ⟨?_, (Below.refl _ _).alloc (Nat.le_refl _) _⟩
      congr 2
      simp_all [mayNum]
  | cons c u =>
    have HP := Lib.hid (parse_any ⟨(c :: u).toArray⟩ (w.alloc (.cells #[.bool neg, .string ⟨(c :: u).toArray⟩, .int .i64 x] 24)) (by rw [Lib.size_mk]; exact hd))
    have HM := Lib.hid (mayNum_parse neg (c :: u) x (by simp))
    have hne : (c :: u).isEmpty = false := rfl
    rw [show (⟨(c :: u).toArray⟩ : ByteArray).data.toList = c :: u from rfl] at HP
    generalize c :: u = d at HP HM hne
    generalize Nm.parse d = r at HP HM
    obtain ⟨⟨rn, rd, rx⟩, re⟩ := r
    go_enter Tryd.func89, Tryd.ntmps89
    go_wp2_with fail
    refine HP.out.mono ?_
    rintro e w2 ⟨rfl, hb2⟩
    have HB := Lib.hid (((Below.refl w.heap.size w).alloc (Nat.le_refl _) (.cells #[.bool neg, .string ⟨d.toArray⟩, .int .i64 x] 24)).trans (hb2.mono (by simp)))
    have hnb := (Blk.new w 24 #[.bool neg, .string ⟨d.toArray⟩, .int .i64 x]).on hb2
    have hz := hb2.size
    have hzz : w.heap.size < w2.heap.size := hnb.lt
    obtain ⟨n0, n1, n2⟩ : w2.cell? ⟨w.heap.size, 0, none⟩ = some (.bool neg) ∧ w2.cell? ⟨w.heap.size, 1, none⟩ = some (.string ⟨d.toArray⟩) ∧ w2.cell? ⟨w.heap.size, 2, none⟩ = some (.int .i64 x) := ⟨hnb.cell 0, hnb.cell 1, hnb.cell 2⟩
    clear hb2 hnb hz
    by_cases hre : re = 0
    · subst hre
      rw [show errV 0 = .nilIface from rfl]
      go_wp2_with fail
      all_goals
        go_ret
        refine ⟨?_, HB.out.alloc (Nat.le_of_lt hzz) _⟩
        congr 2
        have hm := HM.out
        clear HM HP HB
        first | (simp_all; done) | (simp_all; omega)
    · rw [show errV re = .iface 68 (.int .i64 re) from if_neg hre]
      go_wp2_with fail
      all_goals
        go_ret
        refine ⟨?_, HB.out.alloc (Nat.le_of_lt hzz) _⟩
        congr 2
        have hm := HM.out
        clear HM HP HB
        first | (simp_all; done) | (simp_all; omega)

end Go.Proofs.YtfconmjgedaifaaDoor
