/- The laws' Code: of no error, of one of api's. -/
import Derived.Test.YtkhplaknogalgaaDoorSf
namespace Go.Proofs.YtkhplaknogalgaaDoor
open Go.RowKit

theorem code_nil (w : World) : Calls Tryd.prog 19 #[.nilIface] w fun e w' => e = .returned (.int .i64 0) ∧ w' = w := by
  go_enter Tryd.func19, Tryd.ntmps19
  go_wp2
  go_ret
  exact ⟨rfl, rfl⟩

theorem code_eql (j k : Int) (W : World) : (binOp .eql 33 (.iface 56 (.int .i64 j)) (.iface 56 (.int .i64 k))).run Tryd.prog W = .ok (.bool (j == k)) W := by
  kernel_rfl

def Coding (k : Int) (w : World) (v : Value) (wr : World) : Prop := ∃ j : Int, 1 ≤ j ∧ j ≤ k ∧ v = .int .i64 j ∧ wr = w

set_option linter.unusedVariables false in
set_option maxRecDepth 100000 in
set_option maxHeartbeats 400000 in
theorem code_at (k : Int) (w : World) (h1 : 1 ≤ k) (h2 : k ≤ 14) : Calls Tryd.prog 19 #[.iface 56 (.int .i64 k)] w fun e w' => e = .returned (.int .i64 k) ∧ w' = w := by
  go_enter Tryd.func19, Tryd.ntmps19
  go_wp2
  go_loopw [3] (Coding k w) (fun v _ => 15 - (intOf v).toNat)
  case atStart => exact ⟨1, by omega, h1, rfl, rfl⟩
  case round =>
    obtain ⟨j, hj1, hj2, rfl, rfl⟩ := hrel
    have heq := fun W => code_eql k j W
    by_cases hj : j = k
    · have HJ := Lib.hid hj
      have hb : (k == j) = true := by rw [beq_iff_eq]; exact hj.symm
      clear hj
      rw [hb] at heq
      go_wp2
      go_ret
      exact ⟨by rw [← HJ.out]; rfl, rfl⟩
    · have hlt : j < k := by omega
      have hb : (k == j) = false := by rw [beq_eq_false_iff_ne]; exact fun e => hj e.symm
      clear hj
      rw [hb] at heq
      go_wp2
      go_roundw
      case rel => exact ⟨j + 1, by omega, by omega, by go_num, rfl⟩
      case measure => simp [intOf]; omega

end Go.Proofs.YtkhplaknogalgaaDoor

