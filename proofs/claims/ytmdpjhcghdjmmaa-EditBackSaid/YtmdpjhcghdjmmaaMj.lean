/- Mj: Wh Wi, in one text. -/
import Derived.Test.YtmdpjhcghdjmmaaMi
import Derived.Test.YtmdpjhcghdjmmaaWg
import Derived.Lib.IfaceEq
import Derived.Test.YtmdpjhcghdjmmaaMa
/- The walks of layer 1 (num), eighth part: Of, and the law's Code. -/
namespace Go.Proofs.Ytmdpjhcghdjmmaa
open Go.RowKit

theorem codeInfo : (Try.prog.info? 54).map (fun i => i.comparable) = some true := by kernel_rfl

set_option maxHeartbeats 400000 in
theorem code_none (w : World) : Calls Try.prog 13 #[.nilIface] w fun e w' => e = .returned (.int .i64 0) ∧ w = w' := by
  go_enter Try.func13, Try.ntmps13
  go_wp2
  go_ret
  exact ⟨rfl, rfl⟩

set_option maxHeartbeats 400000 in
theorem code_some (k : Int) (w : World) (h0 : 1 ≤ k) (h1 : k ≤ 14) : Calls Try.prog 13 #[.iface 54 (.int .i64 k)] w fun e w' => e = .returned (.int .i64 k) ∧ w = w' := by
  have he : ∀ (a b : Int) (W : World), (binOp .eql 35 (.iface 54 (.int .i64 a)) (.iface 54 (.int .i64 b))).run Try.prog W = .ok (.bool (a == b)) W := fun a b W => Lib.run_eql_iface_int W a b Try.underlying35 codeInfo Try.underlying54
  go_enter Try.func13, Try.ntmps13
  go_wp2
  go_loop [3] (fun i => ∃ j : Int, 1 ≤ j ∧ j ≤ k ∧ i = .int .i64 j) (fun i => (15 - intOf i).toNat)
  case atStart => exact ⟨1, by omega, h0, rfl⟩
  case round =>
    obtain ⟨j, hj1, hj2, rfl⟩ := hrel
    by_cases hjk : k = j
    · subst hjk
      go_wp2
      go_ret
      exact ⟨rfl, rfl⟩
    · have hb : (k == j) = false := by simpa using hjk
      go_wp2
      go_round
      case rel => exact ⟨j + 1, by omega, by omega, rfl⟩
      case measure => simp [intOf]; omega

theorem code_any (k : Int) (w : World) (h0 : 0 ≤ k) (h1 : k ≤ 14) : Calls Try.prog 13 #[errV k] w fun e w' => e = .returned (.int .i64 k) ∧ w = w' := by
  unfold errV
  by_cases h : k = 0
  · subst h; exact code_none w
  · rw [if_neg h]; exact code_some k w (by omega) h1

end Go.Proofs.Ytmdpjhcghdjmmaa

/- The walks of layer 1 (num), ninth part: the laws' head. -/
namespace Go.Proofs.Ytmdpjhcghdjmmaa
open Go.RowKit
end Go.Proofs.Ytmdpjhcghdjmmaa


