/- The document's MayNum of any number. -/
import Derived.Test.YtfconmjgedaifaaDoorRd
import Derived.Test.YtfconmjgedaifaaDoorMo
namespace Go.Proofs.YtfconmjgedaifaaDoor
open Go.RowKit Js

theorem all_pre (p : UInt8 → Bool) (l : List UInt8) : l.all p = decide ((l.takeWhile p).length = l.length) := by
  induction l with
  | nil => rfl
  | cons c l ih =>
    by_cases h : p c = true
    · rw [List.all_cons, h, Bool.true_and, ih, List.takeWhile_cons_of_pos h, List.length_cons, List.length_cons]
      rw [Bool.eq_iff_iff]; simp
    · rw [List.all_cons, List.takeWhile_cons_of_neg h, Bool.eq_false_iff.2 h]
      simp
theorem mayNum_cons (neg : Bool) (c : UInt8) (r : List UInt8) (x : Int) : mayNum ⟨neg, c :: r, x⟩ = (decide ((Nm.pre (c :: r)).length = r.length + 1) && decide (c ≠ 48) && decide ((c :: r).getLast (by simp) ≠ 48) && decide (r.length + 1 ≤ 60) && decide (-1000 ≤ x) && decide (x ≤ 1000)) := by
  unfold mayNum
  rw [if_neg (by simp), List.getLast?_eq_some_getLast (by simp), all_pre]
  simp only [List.head?_cons, List.length_cons, Nm.pre, ne_eq, Option.some.injEq]
  rfl

set_option linter.unusedVariables false in
set_option linter.unusedSimpArgs false in
set_option maxRecDepth 100000 in
set_option maxHeartbeats 2000000 in
theorem refMayNum_any (neg : Bool) (ds : List UInt8) (x : Int) (w : World) (hlen : ds.length ≤ 1000000000) :
    Calls Tryd.prog 46 #[.agg #[.bool neg, .string ⟨ds.toArray⟩, .int .i64 x]] w fun e w' => e = .returned (.bool (mayNum ⟨neg, ds, x⟩)) ∧ Below w.heap.size w w' := by
  rcases ds with _ | ⟨c, r⟩
  · go_enter Tryd.func46, Tryd.ntmps46
    go_wp2_with fail
    all_goals
      go_ret
      refine ⟨?_, (Below.refl _ _).alloc (Nat.le_refl _) _⟩
      congr 2
      first | (simp_all [mayNum]; done) | (simp_all [mayNum]; rw [Bool.eq_iff_iff]; simp)
  · have hM := mayNum_cons neg c r x
    have hc : ∀ W : World, Calls Tryd.prog 77 #[.string ⟨(c :: r).toArray⟩, .int .i64 0] W fun e w' => e = .returned (.int .i64 (Nm.pre (c :: r)).length) ∧ w' = W := fun W => by
      refine (run_any ⟨(c :: r).toArray⟩ 0 W (by rw [Lib.size_mk]; omega) (by omega) (by omega)).mono ?_
      rintro e w' ⟨rfl, rfl⟩
      exact ⟨rfl, rfl⟩
    have hix : ∀ h, (⟨(c :: r).toArray⟩ : ByteArray)[0]'h = c := fun _ => rfl
    have hixl : ∀ h, (⟨(c :: r).toArray⟩ : ByteArray)[r.length]'h = (c :: r).getLast (by simp) := fun h => by
      rw [List.getLast_eq_getElem]
      rfl
    generalize (c :: r).getLast (by simp) = lc at hixl hM
    generalize (Nm.pre (c :: r)).length = P at hc hM
    have HCC := Lib.hid hc
    clear hc
    have HM := Lib.hid hM
    clear hM
    by_cases h1 : 60 < r.length + 1
    · have e1 : decide (60 < (r.length : Int) + 1) = true := by simp; omega
      have HB := Lib.hid (show mayNum ⟨neg, c :: r, x⟩ = false by rw [HM.out]; simp; omega)
      go_enter Tryd.func46, Tryd.ntmps46
      go_wp2_with fail
      go_quiet ((go_at_call 77; exact Calls.quiet_of_same (HCC.out _)))
      go_wp2_with fail
      go_ret
      refine ⟨?_, below_drewN ((Below.refl _ _).alloc (Nat.le_refl _) _) _⟩
      rw [HB.out]
      rfl
    have e1 : decide (60 < (r.length : Int) + 1) = false := by simp; omega
    by_cases h2 : x < -1000
    · have e2 : decide (x < -1000) = true := by simpa using h2
      have HB := Lib.hid (show mayNum ⟨neg, c :: r, x⟩ = false by rw [HM.out]; simp; omega)
      go_enter Tryd.func46, Tryd.ntmps46
      go_wp2_with fail
      go_quiet ((go_at_call 77; exact Calls.quiet_of_same (HCC.out _)))
      go_wp2_with fail
      go_ret
      refine ⟨?_, below_drewN ((Below.refl _ _).alloc (Nat.le_refl _) _) _⟩
      rw [HB.out]
      rfl
    have e2 : decide (x < -1000) = false := by simpa using h2
    by_cases h3 : 1000 < x
    · have e3 : decide (1000 < x) = true := by simpa using h3
      have HB := Lib.hid (show mayNum ⟨neg, c :: r, x⟩ = false by rw [HM.out]; simp; omega)
      go_enter Tryd.func46, Tryd.ntmps46
      go_wp2_with fail
      go_quiet ((go_at_call 77; exact Calls.quiet_of_same (HCC.out _)))
      go_wp2_with fail
      go_ret
      refine ⟨?_, below_drewN ((Below.refl _ _).alloc (Nat.le_refl _) _) _⟩
      rw [HB.out]
      rfl
    have e3 : decide (1000 < x) = false := by simpa using h3
    by_cases h4 : P = r.length + 1
    · subst h4
      by_cases h5 : c = 48
      · have n1 : ((c.toNat : Int) != 48) = false := by rw [h5]; rfl
        have HB := Lib.hid (show mayNum ⟨neg, c :: r, x⟩ = false by rw [HM.out]; simp [h5])
        clear h5
        go_enter Tryd.func46, Tryd.ntmps46
        go_wp2_with fail
        go_quiet ((go_at_call 77; exact Calls.quiet_of_same (HCC.out _)))
        go_wp2_with fail
        go_ret
        refine ⟨?_, below_drewN ((Below.refl _ _).alloc (Nat.le_refl _) _) _⟩
        rw [HB.out]
        rfl
      · have n1 : ((c.toNat : Int) != 48) = true := byte_bne (k := 48) h5
        have n2 : ((lc.toNat : Int) != 48) = decide (lc ≠ 48) := by
          by_cases h6 : lc = 48
          · subst h6; rfl
          · rw [show ((lc.toNat : Int) != 48) = true from byte_bne (k := 48) h6]; simp [h6]
        have HB := Lib.hid (show mayNum ⟨neg, c :: r, x⟩ = ((lc.toNat : Int) != 48) by
          rw [HM.out, n2, show decide (c ≠ 48) = true from by simp [h5], show decide (r.length + 1 ≤ 60) = true from by simp; omega, show decide (-1000 ≤ x) = true from by simp; omega, show decide (x ≤ 1000) = true from by simp; omega]
          simp)
        clear h5 n2
        go_enter Tryd.func46, Tryd.ntmps46
        go_wp2_with fail
        go_quiet ((go_at_call 77; exact Calls.quiet_of_same (HCC.out _)))
        go_wp2_with fail
        go_ret
        refine ⟨?_, below_drewN ((Below.refl _ _).alloc (Nat.le_refl _) _) _⟩
        rw [HB.out]
        rfl
    · have n4 : ((P : Int) != (r.length : Int) + 1) = true := by simp; omega
      have HB := Lib.hid (show mayNum ⟨neg, c :: r, x⟩ = false by rw [HM.out]; simp [h4])
      go_enter Tryd.func46, Tryd.ntmps46
      go_wp2_with fail
      go_quiet ((go_at_call 77; exact Calls.quiet_of_same (HCC.out _)))
      go_wp2_with fail
      go_ret
      refine ⟨?_, below_drewN ((Below.refl _ _).alloc (Nat.le_refl _) _) _⟩
      rw [HB.out]
      rfl

end Go.Proofs.YtfconmjgedaifaaDoor
