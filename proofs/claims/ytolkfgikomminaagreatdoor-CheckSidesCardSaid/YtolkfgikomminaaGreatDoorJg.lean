/- The laws of layer 7 (edit): the laws' Pointer; a place's digits. -/
import Derived.Test.YtolkfgikomminaaGreatDoorJa
import Derived.Test.YtolkfgikomminaaGreatDoorPq
import Derived.Test.YtolkfgikomminaaGreatDoorMo
import Derived.Test.YtolkfgikomminaaGreatDoorSf
namespace Go.Proofs.YtolkfgikomminaaGreatDoor
open Go.RowKit Pt
theorem showPlain_any (n : Nat) (w : World) (h : n ≤ 1000000) : Calls Tryz.prog 116 #[.int .i64 n] w fun e w' => e = .returned (.string ⟨(Lib.decDigits n).toArray⟩) ∧ Below w.heap.size w w' := by
 have HI := Lib.hid (itoa_pos n (n : Int) w (by omega) (by omega) (by omega))
 rw [show ((n : Int)).toNat = n by omega] at HI
 go_enter Tryz.func116, Tryz.ntmps116
 go_wp2_with fail
 refine HI.out.mono ?_
 rintro e w1 ⟨rfl, hb⟩
 go_wp2_with fail
 go_ret
 exact ⟨rfl, hb⟩

end Go.Proofs.YtolkfgikomminaaGreatDoor

