/- The walks of the document's answers of layer 1, fourth part: MayNum. -/
import Derived.Test.YtbcoakonjgakbaaDoorTc
import Derived.Deep.QuietTactic
import Derived.BigQuiet
namespace Go.Proofs.YtbcoakonjgakbaaDoor
open Go.RowKit

theorem byte_bne {c k : UInt8} (h : ¬ c = k) : ((c.toNat : Int) != (k.toNat : Int)) = true := by rw [bne, Nm.byte_ne h]; rfl

/-- What MayNum asks beside the digits. -/
def mayB (n : Nat) (x : Int) : Bool := !(decide (60 < n) || decide (x < -1000) || decide (1000 < x))

set_option maxHeartbeats 1000000 in
theorem mayNum_any (neg : Bool) (ds : List UInt8) (x : Int) (w : World) (hne : ds ≠ []) (hd : ∀ c ∈ ds, Nm.dig c = true) (hh : ds.head? ≠ some 48) (hl : ds.getLast? ≠ some 48) (hlen : ds.length ≤ 1000000) :
    Calls Tryd.prog 31 #[.agg #[.bool neg, .string ⟨ds.toArray⟩, .int .i64 x]] w fun e w' => e = .returned (.bool (mayB ds.length x)) ∧ Below w.heap.size w w' := by
  have hrun := (Nm.pre_all ds [] hd (fun c h => by cases h)).1
  rw [List.append_nil] at hrun
  have HR := Lib.hid hrun
  have HD := Lib.hid hd
  have HH := Lib.hid hh
  have HL := Lib.hid hl
  clear hrun hd hh hl
  rcases ds with _ | ⟨c, r⟩
  · exact absurd rfl hne
  · clear hne
    have hc : ∀ W : World, Calls Tryd.prog 55 #[.string ⟨(c :: r).toArray⟩, .int .i64 0] W fun e w' => e = .returned (.int .i64 (r.length + 1)) ∧ w' = W := fun W => by
      refine (run_any ⟨(c :: r).toArray⟩ 0 W (by rw [Lib.size_mk]; omega) (by omega) (by omega)).mono ?_
      rintro e w' ⟨rfl, rfl⟩
      refine ⟨?_, rfl⟩
      rw [show (⟨(c :: r).toArray⟩ : ByteArray).data.toList.drop (0 : Int).toNat = c :: r from rfl, HR.out]
      simp
    have HCC := Lib.hid hc
    clear hc
    have hcv : (c :: r).getLast (by simp) ≠ 48 := fun e => HL.out (by rw [List.getLast?_eq_some_getLast (by simp), e])
    have hc48 : c ≠ 48 := fun e => HH.out (by rw [e]; rfl)
    have hix : ∀ h, (⟨(c :: r).toArray⟩ : ByteArray)[0]'h = c := fun _ => rfl
    have hixl : ∀ h, (⟨(c :: r).toArray⟩ : ByteArray)[r.length]'h = (c :: r).getLast (by simp) := fun h => by
      rw [List.getLast_eq_getElem]
      rfl
    have n1 : ((c.toNat : Int) != 48) = true := byte_bne (k := 48) hc48
    have n2 : (((c :: r).getLast (by simp)).toNat != (48 : Int)) = true := byte_bne (k := 48) hcv
    generalize (c :: r).getLast (by simp) = lc at hixl n2 hcv
    clear hcv hc48 HH HL HD
    by_cases h1 : 60 < r.length + 1
    · have e1 : decide (60 < (r.length : Int) + 1) = true := by simp; omega
      have HB := Lib.hid (show mayB (r.length + 1) x = false by unfold mayB; simp; omega)
      go_enter Tryd.func31, Tryd.ntmps31
      go_wp2_with fail
      go_quiet ((go_at_call 55; exact Calls.quiet_of_same (HCC.out _)))
      go_wp2_with fail
      go_ret
      refine ⟨?_, below_drewN ((Below.refl _ _).alloc (Nat.le_refl _) _) _⟩
      rw [HB.out]
      rfl
    · have e1 : decide (60 < (r.length : Int) + 1) = false := by simp; omega
      by_cases h2 : x < -1000
      · have e2 : decide (x < -1000) = true := by simpa using h2
        have HB := Lib.hid (show mayB (r.length + 1) x = false by unfold mayB; simp; omega)
        go_enter Tryd.func31, Tryd.ntmps31
        go_wp2_with fail
        go_quiet ((go_at_call 55; exact Calls.quiet_of_same (HCC.out _)))
        go_wp2_with fail
        go_ret
        refine ⟨?_, below_drewN ((Below.refl _ _).alloc (Nat.le_refl _) _) _⟩
        rw [HB.out]
        rfl
      · have e2 : decide (x < -1000) = false := by simpa using h2
        by_cases h3 : 1000 < x
        · have e3 : decide (1000 < x) = true := by simpa using h3
          have HB := Lib.hid (show mayB (r.length + 1) x = false by unfold mayB; simp; omega)
          go_enter Tryd.func31, Tryd.ntmps31
          go_wp2_with fail
          go_quiet ((go_at_call 55; exact Calls.quiet_of_same (HCC.out _)))
          go_wp2_with fail
          go_ret
          refine ⟨?_, below_drewN ((Below.refl _ _).alloc (Nat.le_refl _) _) _⟩
          rw [HB.out]
          rfl
        · have e3 : decide (1000 < x) = false := by simpa using h3
          have HB := Lib.hid (show mayB (r.length + 1) x = true by unfold mayB; simp; omega)
          go_enter Tryd.func31, Tryd.ntmps31
          go_wp2_with fail
          go_quiet ((go_at_call 55; exact Calls.quiet_of_same (HCC.out _)))
          go_wp2_with fail
          go_ret
          refine ⟨?_, below_drewN ((Below.refl _ _).alloc (Nat.le_refl _) _) _⟩
          rw [HB.out]
          rfl

end Go.Proofs.YtbcoakonjgakbaaDoor
