/- Mj: Wh Wi, in one text. -/
import Derived.Test.YtjdkfkjkmjodlaaDoorMi
import Derived.Test.YtjdkfkjkmjodlaaDoorWg
import Derived.Lib.IfaceEq
import Derived.Test.YtjdkfkjkmjodlaaDoorMa
/- The walks of layer 1 (num), eighth part: Of, and the law's Code. -/
namespace Go.Proofs.YtjdkfkjkmjodlaaDoor
open Go.RowKit

theorem codeInfo : (Tryd.prog.info? 53).map (fun i => i.comparable) = some true := by kernel_rfl

set_option maxHeartbeats 400000 in
theorem code_none (w : World) : Calls Tryd.prog 18 #[.nilIface] w fun e w' => e = .returned (.int .i64 0) ∧ w = w' := by
  go_enter Tryd.func18, Tryd.ntmps18
  go_wp2
  go_ret
  exact ⟨rfl, rfl⟩

set_option maxHeartbeats 400000 in
theorem code_some (k : Int) (w : World) (h0 : 1 ≤ k) (h1 : k ≤ 14) : Calls Tryd.prog 18 #[.iface 53 (.int .i64 k)] w fun e w' => e = .returned (.int .i64 k) ∧ w = w' := by
  have he : ∀ (a b : Int) (W : World), (binOp .eql 25 (.iface 53 (.int .i64 a)) (.iface 53 (.int .i64 b))).run Tryd.prog W = .ok (.bool (a == b)) W := fun a b W => Lib.run_eql_iface_int W a b Tryd.underlying25 codeInfo Tryd.underlying53
  go_enter Tryd.func18, Tryd.ntmps18
  go_wp2
  go_loop [3] (fun i => ∃ j : Int, 1 ≤ j ∧ j ≤ k ∧ i = .int .i64 j) (fun i => (15 - intOf i).toNat)
  case atStart => exact ⟨1, by omega, h0, rfl⟩
  case round =>
    obtain ⟨j, hj1, hj2, rfl⟩ := hrel
    by_cases hjk : k = j
    · subst hjk
      go_wp2
      go_ret
      exact ⟨rfl, rfl⟩
    · have hb : (k == j) = false := by simpa using hjk
      go_wp2
      go_round
      case rel => exact ⟨j + 1, by omega, by omega, rfl⟩
      case measure => simp [intOf]; omega

theorem code_any (k : Int) (w : World) (h0 : 0 ≤ k) (h1 : k ≤ 14) : Calls Tryd.prog 18 #[errV k] w fun e w' => e = .returned (.int .i64 k) ∧ w = w' := by
  unfold errV
  by_cases h : k = 0
  · subst h; exact code_none w
  · rw [if_neg h]; exact code_some k w (by omega) h1

end Go.Proofs.YtjdkfkjkmjodlaaDoor

/- The walks of layer 1 (num), ninth part: the laws' head. -/
namespace Go.Proofs.YtjdkfkjkmjodlaaDoor
open Go.RowKit
end Go.Proofs.YtjdkfkjkmjodlaaDoor


