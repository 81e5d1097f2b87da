/- The laws of layer 11 (schema), given what the program's Compile is to do: SchemaTells. -/
import Derived.Test.YtolkfgikomminaaGreatDoorDi
import Derived.Test.YtolkfgikomminaaGreatDoorCf
namespace Go.Proofs.YtolkfgikomminaaGreatDoor
open Go.RowKit Js Pt

def Cm.outL : Cm.Res (List Cm.Node) → List Cm.Node
 | .ok a => a
 | .bad _ _ => []
def Cm.outC : Cm.Res (List Cm.Node) → Nat
 | .ok _ => 0
 | .bad c _ => c
def Cm.outP : Cm.Res (List Cm.Node) → List UInt8
 | .ok _ => []
 | .bad _ p => text p
theorem CompR.out {r : Cm.Res (List Cm.Node)} {w : World} {e : Ending} {w' : World} (h : CompR r w e w') :
  ∃ (A : Option Addr) (cp : Nat), e = .returned (.tuple #[.slice A (Cm.outL r).length cp, .int .i64 (Cm.outC r), .string ⟨(Cm.outP r).toArray⟩]) ∧ SlN w'.cell? A (Cm.outL r) ∧ (Cm.outL r).length ≤ cp ∧ cp ≤ maxLen ∧ Below w.heap.size w w' := by
 obtain ⟨hb, ⟨a, A, cp, rfl, rfl, h1, h2, h3⟩ | ⟨c, p, rfl, _, _, rfl⟩⟩ := h
 ·exact ⟨A, cp, rfl, h1, h2, h3, hb⟩
 ·exact ⟨none, 0, rfl, fun i N h => by simp [Cm.outL] at h, Nat.le_refl _, by unfold maxLen; omega, hb⟩

def Cm.exV : Vl := .mk 1 true Nm.Num.zero [] [] []
theorem Cm.ex_one : Cm.compile Cm.exV = .ok [⟨[], true, true, []⟩] := by kernel_rfl
theorem Cm.wide_of {s : List UInt8} {v : Vl} {u : List UInt8} (hs : s.length ≤ 20000) (h : Ps.parse s = .ok v u) : Wide v := by
 have ht := Ps.parse_told s
 have hl := Ps.parse_slim h
 rw [h] at ht
 have h2 := ht.2
 exact ⟨ht.1.1, by omega, slim_mono (by omega) v hl⟩

end Go.Proofs.YtolkfgikomminaaGreatDoor

