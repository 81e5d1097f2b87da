/- The laws of layer 7 (edit): the laws' Pointer; a place's digits. -/
import Derived.Test.YtccacjkogdmleaaDoorJa
import Derived.Test.YtccacjkogdmleaaDoorPq
import Derived.Test.YtccacjkogdmleaaDoorMo
import Derived.Test.YtccacjkogdmleaaDoorSf
namespace Go.Proofs.YtccacjkogdmleaaDoor
open Go.RowKit Pt

theorem own_names {w : World} {B : Nat} {A : Option Addr} {cp : Nat} {l : List (List UInt8)} (h : w.ownsRow B 9 1 (.slice A l.length cp) l.length (strs l)) : Strs w.cell? A l ∧ l.length ≤ cp ∧ cp ≤ maxLen ∧ (A = none → l.length = 0 ∧ cp = 0) := by
  obtain ⟨hl, ⟨h, h0⟩ | ⟨g, cap, cur, hv, hb, hc, h1, h2, h3, h4⟩⟩ := h
  · injection h with _ _ h2
    subst h2
    refine ⟨fun i n hi => ?_, by omega, by unfold maxLen; omega, fun _ => ⟨h0, rfl⟩⟩
    have := (List.getElem?_eq_some_iff.1 hi).1
    omega
  · injection hv with ha hn hcap
    subst hcap ha
    refine ⟨fun i n hi => ⟨g, 0, rfl, ?_⟩, h1, h2, fun h => by cases h⟩
    rw [Nat.zero_add, cell_of_row w g i cur 9 (0, 0) hc]
    have hx : (strs l)[i]? = some (.string ⟨n.toArray⟩) := by simp [strs, hi]
    rw [← h4] at hx
    have hx2 := List.getElem?_eq_some_iff.1 hx
    obtain ⟨h5, h6⟩ := hx2
    rw [List.getElem_take] at h6
    rw [← Array.getElem?_toList, List.getElem?_eq_some_iff]
    exact ⟨_, h6⟩

/-- What Pointer of the laws tells. -/
def LPtr (t : List UInt8) (w : World) (e : Ending) (w' : World) : Prop :=
  ∃ (l : List (List UInt8)) (A : Option Addr) (cp : Nat) (c : Int), e = .returned (.tuple #[.slice A l.length cp, .int .i64 c]) ∧ Strs w'.cell? A l ∧ l.length ≤ cp ∧ cp ≤ maxLen ∧ (A = none → l.length = 0 ∧ cp = 0) ∧ Below w.heap.size w w' ∧
    (c = 0 ∨ (c = 1 ∧ parse t = .ok l ∧ St.text t = true ∧ t.length ≤ 500))
theorem LPtr.no {t : List UInt8} {w w' : World} (hb : Below w.heap.size w w') : LPtr t w (.returned (.tuple #[.slice none 0 0, .int .i64 0])) w' :=
  ⟨[], none, 0, 0, rfl, fun i n h => by simp at h, Nat.le_refl _, by unfold maxLen; omega, fun _ => ⟨rfl, rfl⟩, hb, .inl rfl⟩

end Go.Proofs.YtccacjkogdmleaaDoor

