/- Mm: Sj Sk Sl, in one text. -/
import Derived.Test.YtjjenpmahmbafaaGreatDoorMk
import Derived.Test.YtjjenpmahmbafaaGreatDoorMb
import Derived.Lib.DecodeN
import Derived.Lib.TrimByte
import Derived.Shelf.Unicode.DecodeSlow
import Derived.Lib.ValidLaws
import Derived.Test.YtjjenpmahmbafaaGreatDoorMh
namespace Go.Proofs.YtjjenpmahmbafaaGreatDoor
open Go.RowKit
end Go.Proofs.YtjjenpmahmbafaaGreatDoor

namespace Go.Proofs.YtjjenpmahmbafaaGreatDoor
open Go.RowKit
end Go.Proofs.YtjjenpmahmbafaaGreatDoor

namespace Go.Proofs.YtjjenpmahmbafaaGreatDoor
open Go.RowKit
theorem qb_take (l : List UInt8) (k : Nat) (h : k < l.length) : St.qb (l.take (k + 1)) = St.qb (l.take k) ++ St.qc l[k] := by
  rw [List.take_succ_eq_append_getElem h, St.qb_append]
  simp [St.qb]
theorem qc_len (c : UInt8) : (St.qc c).length ≤ 6 := by
  unfold St.qc; repeat' split
  all_goals simp
theorem qb_len (l : List UInt8) : (St.qb l).length ≤ 6 * l.length := by
  induction l with
  | nil => simp [St.qb]
  | cons c t ih => rw [St.qb_cons, List.length_append, List.length_cons]; have := qc_len c; omega

theorem hexTab : ∀ (d : Nat) (h : d < 16), (⟨#[48, 49, 50, 51, 52, 53, 54, 55, 56, 57, 97, 98, 99, 100, 101, 102]⟩ : ByteArray)[d]'h = St.hexd d := by decide

end Go.Proofs.YtjjenpmahmbafaaGreatDoor


