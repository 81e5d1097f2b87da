/- Mk: Sc Sd, in one text. -/
import Derived.Test.YtmdpjhcghdjmmaaRows
import Derived.Test.YtmdpjhcghdjmmaaMb
import Derived.WalkKit
import Derived.WalkSpells
import Derived.WalkLawsBesides
import Derived.Deep.QuietTactic
import Derived.BigQuiet
import Derived.RegionTactic
import Derived.Lib.Hide
import Derived.Lib.Strings
import Derived.Laws.BitsLemmas
/- The walks of layer 2 (str), first part: wrong, isHigh, isLow, digit, fourDigits. -/
namespace Go.Proofs.Ytmdpjhcghdjmmaa
open Go.RowKit
/-- What a digit of 16 counts, as digit tells it. -/
abbrev digV (c : UInt8) : Value := .tuple #[.int .i32 ((St.hexv c).getD 0 : Nat), .bool (St.hexv c).isSome]

end Go.Proofs.Ytmdpjhcghdjmmaa

/- The walks of layer 2 (str), second part: fourDigits. -/
namespace Go.Proofs.Ytmdpjhcghdjmmaa
open Go.RowKit

/-- One round of fourDigits. -/
theorem St.fourGo_step (l : List UInt8) (j k r : Nat) (hk : k < l.length) : St.fourGo (j + 1) r k (l.drop k) = match St.hexv l[k] with
    | none => (r, k)
    | some d => St.fourGo j (16 * r + d) (k + 1) (l.drop (k + 1)) := by
  rw [List.drop_eq_getElem_cons hk]
  rfl
theorem St.fourGo_stop (l : List UInt8) (j k r : Nat) (hk : l.length ≤ k) : St.fourGo j r k (l.drop k) = (r, k) := by
  rw [List.drop_eq_nil_of_le hk]
  cases j <;> rfl

theorem wrap32 (n : Int) (h0 : 0 ≤ n) (h1 : n < 2 ^ 16) : IntKind.i32.wrap n = n := by
  have h2 : n < 65536 := h1
  simp [IntKind.wrap, IntKind.bits, IntKind.signed]
  omega

theorem or4 (r d : Nat) (hr : r < 4096) (hd : d < 16) : bits .or .i32 ((r : Int) * 16) (d : Int) = ((16 * r + d : Nat) : Int) := by
  rw [bits_join .i32 16 (by decide) wrap32 4 ((r : Int) * 16) d (by omega) (by omega) (by omega) (by omega) (by omega) (by omega)]
  omega

/-- How great a number of k digits of 16 can be. -/
def Bd (k r : Nat) : Prop := (k = 0 → r < 1) ∧ (k ≤ 1 → r < 16) ∧ (k ≤ 2 → r < 256) ∧ (k ≤ 3 → r < 4096) ∧ r < 65536
theorem Bd.next {k r d : Nat} (h : Bd k r) (hk : k < 4) (hd : d < 16) : Bd (k + 1) (16 * r + d) := by
  unfold Bd at *; omega
theorem Bd.lt {k r : Nat} (h : Bd k r) (hk : k < 4) : r < 4096 := h.2.2.2.1 (by omega)

end Go.Proofs.Ytmdpjhcghdjmmaa


