/- Ml: Sg Sh, in one text. -/
import Derived.Test.YtmdpjhcghdjmmaaMk
import Derived.Test.YtmdpjhcghdjmmaaWb
import Derived.Lib.RuneBytes
/- The walks of layer 2 (str), third part: lowHalf, numbered. -/
namespace Go.Proofs.Ytmdpjhcghdjmmaa
open Go.RowKit

theorem St.half_hit (t : List UInt8) : Lib.hasPrefix (92 :: 117 :: t) [92, 117] = true ∧ Lib.trimPrefix (92 :: 117 :: t) [92, 117] = t := by
  have h : Lib.hasPrefix (92 :: 117 :: t) [92, 117] = true := by simp [Lib.hasPrefix]
  exact ⟨h, by unfold Lib.trimPrefix; rw [h]; rfl⟩

theorem St.half_miss (l : List UInt8) : (∃ t, l = 92 :: 117 :: t) ∨ (Lib.hasPrefix l [92, 117] = false ∧ St.half l = (0, false)) := by
  match l with
  | [] => exact .inr ⟨rfl, rfl⟩
  | [a] => exact .inr ⟨by simp [Lib.hasPrefix, List.isPrefixOf], rfl⟩
  | a :: b :: t =>
    by_cases h : a = 92 ∧ b = 117
    · obtain ⟨rfl, rfl⟩ := h; exact .inl ⟨t, rfl⟩
    · refine .inr ⟨?_, by rw [St.half_two, if_neg h]⟩
      simp only [Lib.hasPrefix, List.isPrefixOf, Bool.and_true, Bool.and_eq_false_iff, beq_eq_false_iff_ne, ne_eq]
      by_cases e : a = 92
      · right; intro e2; exact h ⟨e, e2.symm⟩
      · left; intro e2; exact e e2.symm

/-- An error with its place, in a world. -/
def SpotAt (w : World) (b : Nat) (a k : Int) : Prop := w.cell? ⟨b, 0, none⟩ = some (.int .i64 a) ∧ w.cell? ⟨b, 1, none⟩ = some (.int .i64 k)

end Go.Proofs.Ytmdpjhcghdjmmaa

/- The walks of layer 2 (str), fourth part: escape. -/
namespace Go.Proofs.Ytmdpjhcghdjmmaa
open Go.RowKit

theorem len_at {s : ByteArray} {i : Nat} (h : i < s.size) : i < s.data.toList.length := by rw [← Lib.size_eq]; exact h
theorem drop_at (s : ByteArray) (i : Nat) (h : i < s.size) : s.data.toList.drop i = s.data.toList[i]'(len_at h) :: s.data.toList.drop (i + 1) := List.drop_eq_getElem_cons (len_at h)

theorem byte_eqb {c : UInt8} (k : UInt8) (h : c = k) : ((c.toNat : Int) == (k.toNat : Int)) = true := by subst h; simp
theorem byte_neb {c : UInt8} (k : UInt8) (h : ¬ c = k) : ((c.toNat : Int) == (k.toNat : Int)) = false := by
  rw [beq_eq_false_iff_ne]
  intro e
  exact h (UInt8.toNat_inj.1 (by omega))

end Go.Proofs.Ytmdpjhcghdjmmaa


