/- Mk: Mk Ml, in one text. -/
import Derived.Test.YtfolfibembplbaaGreatDoorRows
import Derived.Test.YtfolfibembplbaaGreatDoorMb
import Derived.WalkKit
import Derived.WalkSpells
import Derived.WalkLawsBesides
import Derived.Deep.QuietTactic
import Derived.BigQuiet
import Derived.RegionTactic
import Derived.Lib.Hide
import Derived.Lib.Strings
import Derived.Laws.BitsLemmas
import Derived.Test.YtfolfibembplbaaGreatDoorWb
import Derived.Lib.RuneBytes
/- Mk: Sc Sd, in one text. -/
/- The walks of layer 2 (str), first part: wrong, isHigh, isLow, digit, fourDigits. -/
namespace Go.Proofs.YtfolfibembplbaaGreatDoor
open Go.RowKit
/-- What a digit of 16 counts, as digit tells it. -/
abbrev digV (c : UInt8) : Value := .tuple #[.int .i32 ((St.hexv c).getD 0 : Nat), .bool (St.hexv c).isSome]

end Go.Proofs.YtfolfibembplbaaGreatDoor

/- The walks of layer 2 (str), second part: fourDigits. -/
namespace Go.Proofs.YtfolfibembplbaaGreatDoor
open Go.RowKit

/-- One round of fourDigits. -/
theorem St.fourGo_step (l : List UInt8) (j k r : Nat) (hk : k < l.length) : St.fourGo (j + 1) r k (l.drop k) = match St.hexv l[k] with
    | none => (r, k)
    | some d => St.fourGo j (16 * r + d) (k + 1) (l.drop (k + 1)) := by
  rw [List.drop_eq_getElem_cons hk]
  rfl
theorem St.fourGo_stop (l : List UInt8) (j k r : Nat) (hk : l.length ≤ k) : St.fourGo j r k (l.drop k) = (r, k) := by
  rw [List.drop_eq_nil_of_le hk]
  cases j <;> rfl

theorem wrap32 (n : Int) (h0 : 0 ≤ n) (h1 : n < 2 ^ 16) : IntKind.i32.wrap n = n := by
  have h2 : n < 65536 := h1
  simp [IntKind.wrap, IntKind.bits, IntKind.signed]
  omega

theorem or4 (r d : Nat) (hr : r < 4096) (hd : d < 16) : bits .or .i32 ((r : Int) * 16) (d : Int) = ((16 * r + d : Nat) : Int) := by
  rw [bits_join .i32 16 (by decide) wrap32 4 ((r : Int) * 16) d (by omega) (by omega) (by omega) (by omega) (by omega) (by omega)]
  omega

/-- How great a number of k digits of 16 can be. -/
def Bd (k r : Nat) : Prop := (k = 0 → r < 1) ∧ (k ≤ 1 → r < 16) ∧ (k ≤ 2 → r < 256) ∧ (k ≤ 3 → r < 4096) ∧ r < 65536
theorem Bd.next {k r d : Nat} (h : Bd k r) (hk : k < 4) (hd : d < 16) : Bd (k + 1) (16 * r + d) := by
  unfold Bd at *; omega
theorem Bd.lt {k r : Nat} (h : Bd k r) (hk : k < 4) : r < 4096 := h.2.2.2.1 (by omega)

end Go.Proofs.YtfolfibembplbaaGreatDoor

/- Ml: Sg Sh, in one text. -/
/- The walks of layer 2 (str), third part: lowHalf, numbered. -/
namespace Go.Proofs.YtfolfibembplbaaGreatDoor
open Go.RowKit

theorem St.half_hit (t : List UInt8) : Lib.hasPrefix (92 :: 117 :: t) [92, 117] = true ∧ Lib.trimPrefix (92 :: 117 :: t) [92, 117] = t := by
  have h : Lib.hasPrefix (92 :: 117 :: t) [92, 117] = true := by simp [Lib.hasPrefix]
  exact ⟨h, by unfold Lib.trimPrefix; rw [h]; rfl⟩

theorem St.half_miss (l : List UInt8) : (∃ t, l = 92 :: 117 :: t) ∨ (Lib.hasPrefix l [92, 117] = false ∧ St.half l = (0, false)) := by
  match l with
  | [] => exact .inr ⟨rfl, rfl⟩
  | [a] => exact .inr ⟨by simp [Lib.hasPrefix, List.isPrefixOf], rfl⟩
  | a :: b :: t =>
    by_cases h : a = 92 ∧ b = 117
    · obtain ⟨rfl, rfl⟩ := h; exact .inl ⟨t, rfl⟩
    · refine .inr ⟨?_, by rw [St.half_two, if_neg h]⟩
      simp only [Lib.hasPrefix, List.isPrefixOf, Bool.and_true, Bool.and_eq_false_iff, beq_eq_false_iff_ne, ne_eq]
      by_cases e : a = 92
      · right; intro e2; exact h ⟨e, e2.symm⟩
      · left; intro e2; exact e e2.symm

/-- An error with its place, in a world. -/
def SpotAt (w : World) (b : Nat) (a k : Int) : Prop := w.cell? ⟨b, 0, none⟩ = some (.int .i64 a) ∧ w.cell? ⟨b, 1, none⟩ = some (.int .i64 k)

end Go.Proofs.YtfolfibembplbaaGreatDoor

/- The walks of layer 2 (str), fourth part: escape. -/
namespace Go.Proofs.YtfolfibembplbaaGreatDoor
open Go.RowKit

theorem len_at {s : ByteArray} {i : Nat} (h : i < s.size) : i < s.data.toList.length := by rw [← Lib.size_eq]; exact h
theorem drop_at (s : ByteArray) (i : Nat) (h : i < s.size) : s.data.toList.drop i = s.data.toList[i]'(len_at h) :: s.data.toList.drop (i + 1) := List.drop_eq_getElem_cons (len_at h)

theorem byte_eqb {c : UInt8} (k : UInt8) (h : c = k) : ((c.toNat : Int) == (k.toNat : Int)) = true := by subst h; simp
theorem byte_neb {c : UInt8} (k : UInt8) (h : ¬ c = k) : ((c.toNat : Int) == (k.toNat : Int)) = false := by
  rw [beq_eq_false_iff_ne]
  intro e
  exact h (UInt8.toNat_inj.1 (by omega))

end Go.Proofs.YtfolfibembplbaaGreatDoor


