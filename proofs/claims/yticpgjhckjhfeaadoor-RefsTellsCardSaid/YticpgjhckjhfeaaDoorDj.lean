/- The laws of layer 11 (schema), given what the program's Compile is to do: SchemaTells. -/
import Derived.Test.YticpgjhckjhfeaaDoorDi
import Derived.Test.YticpgjhckjhfeaaDoorCf
namespace Go.Proofs.YticpgjhckjhfeaaDoor
open Go.RowKit Js Pt

/-! What is told of a schema: nodes, an error's number, its pointer. -/
def Cm.outL : Cm.Res (List Cm.Node) → List Cm.Node
  | .ok a => a
  | .bad _ _ => []
def Cm.outC : Cm.Res (List Cm.Node) → Nat
  | .ok _ => 0
  | .bad c _ => c
def Cm.outP : Cm.Res (List Cm.Node) → List UInt8
  | .ok _ => []
  | .bad _ p => text p
def spellV (b : Nat) : Value := .iface 61 (.pointer (some ⟨b, 0, none⟩))
def SpellAt (w : World) (b : Nat) (p : List UInt8) (c : Int) : Prop := w.cell? ⟨b, 0, none⟩ = some (.string ⟨p.toArray⟩) ∧ w.cell? ⟨b, 1, none⟩ = some (.int .i64 c)
/-- An error as it stands in a slot: none, or a Spell's block. -/
def ErrS (w : World) (ev : Value) (c : Nat) (p : List UInt8) : Prop := (ev = .nilIface ∧ c = 0 ∧ p = []) ∨ (¬ c = 0 ∧ ∃ b, ev = spellV b ∧ SpellAt w b p c)
theorem ErrS.on {w w' : World} {ev : Value} {c : Nat} {p : List UInt8} (h : ErrS w ev c p) (hb : Below w.heap.size w w') : ErrS w' ev c p := by
  rcases h with h | ⟨h0, b, h1, h2, h3⟩
  · exact .inl h
  · exact .inr ⟨h0, b, h1, le_below hb _ _ h2, le_below hb _ _ h3⟩
/-- What the program's Compile tells. -/
def CompP (r : Cm.Res (List Cm.Node)) (w : World) (e : Ending) (w' : World) : Prop :=
  ∃ (A : Option Addr) (cp : Nat) (ev : Value), e = .returned (.tuple #[.slice A (Cm.outL r).length cp, ev]) ∧ SlN w'.cell? A (Cm.outL r) ∧ (Cm.outL r).length ≤ cp ∧ cp ≤ maxLen ∧ ErrS w' ev (Cm.outC r) (Cm.outP r) ∧ (ev = .nilIface → ∃ a, r = .ok a) ∧ Below w.heap.size w w'
theorem CompR.out {r : Cm.Res (List Cm.Node)} {w : World} {e : Ending} {w' : World} (h : CompR r w e w') :
    ∃ (A : Option Addr) (cp : Nat), e = .returned (.tuple #[.slice A (Cm.outL r).length cp, .int .i64 (Cm.outC r), .string ⟨(Cm.outP r).toArray⟩]) ∧ SlN w'.cell? A (Cm.outL r) ∧ (Cm.outL r).length ≤ cp ∧ cp ≤ maxLen ∧ Below w.heap.size w w' := by
  obtain ⟨hb, ⟨a, A, cp, rfl, rfl, h1, h2, h3⟩ | ⟨c, p, rfl, _, _, rfl⟩⟩ := h
  · exact ⟨A, cp, rfl, h1, h2, h3, hb⟩
  · exact ⟨none, 0, rfl, fun i N h => by simp [Cm.outL] at h, Nat.le_refl _, by unfold maxLen; omega, hb⟩

theorem spell_nil (w : World) : Calls Tryd.prog 10 #[.nilIface] w fun e w' => e = .returned (.tuple #[.int .i64 0, .string ⟨#[]⟩]) ∧ w = w' := by
  go_enter Tryd.func10, Tryd.ntmps10
  go_wp2
  go_ret2
  exact ⟨rfl, rfl⟩
theorem assert_spell (v : Value) (w : World) : (Instr.typeAssert (.iface 61 v) 35 61 true).run Tryd.prog w = .ok (.tuple #[v, .bool true]) w := by
  simp [Instr.typeAssert, run_underlying Tryd.underlying61]
set_option maxRecDepth 100000 in
set_option maxHeartbeats 400000 in
theorem spell_at (b : Nat) (p : List UInt8) (k : Int) (w : World) (h : SpellAt w b p k) : Calls Tryd.prog 10 #[spellV b] w fun e w' => e = .returned (.tuple #[.int .i64 k, .string ⟨p.toArray⟩]) ∧ Below w.heap.size w w' := by
  obtain ⟨h0, h1⟩ := h
  unfold spellV
  have has := assert_spell (.pointer (some ⟨b, 0, none⟩)) w
  go_enter Tryd.func10, Tryd.ntmps10
  go_wp2
  go_quiet (fail)
  go_wp2
  go_ret2
  exact ⟨rfl, below_drewN (Below.refl _ _) _⟩
theorem spell_any {w : World} {ev : Value} {c : Nat} {p : List UInt8} (h : ErrS w ev c p) : Calls Tryd.prog 10 #[ev] w fun e w' => e = .returned (.tuple #[.int .i64 c, .string ⟨p.toArray⟩]) ∧ Below w.heap.size w w' := by
  rcases h with ⟨rfl, rfl, rfl⟩ | ⟨_, b, rfl, h2⟩
  · refine (spell_nil w).mono ?_
    rintro e w' ⟨rfl, rfl⟩
    exact ⟨rfl, .refl _ _⟩
  · exact spell_at b p c w h2

/-- The document's example. -/
def Cm.exV : Vl := .mk 1 true Nm.Num.zero [] [] []
theorem Cm.ex_one : Cm.compile Cm.exV = .ok [⟨[], true, true, []⟩] := by kernel_rfl
theorem Cm.ex_none : Cm.compile Ps.mkN = .bad 14 [] := by kernel_rfl
theorem Cm.wide_of {s : List UInt8} {v : Vl} {u : List UInt8} (hs : s.length ≤ 20000) (h : Ps.parse s = .ok v u) : Wide v := by
  have ht := Ps.parse_told s
  have hl := Ps.parse_slim h
  rw [h] at ht
  have h2 := ht.2
  exact ⟨ht.1.1, by omega, slim_mono (by omega) v hl⟩

end Go.Proofs.YticpgjhckjhfeaaDoor

