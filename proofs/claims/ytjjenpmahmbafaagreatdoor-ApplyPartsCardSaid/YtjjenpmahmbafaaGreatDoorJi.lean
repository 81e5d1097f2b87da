/- The walks of layer 7 (edit): the document's Edit, of an element, walked. -/
import Derived.Test.YtjjenpmahmbafaaGreatDoorJd
namespace Go.Proofs.YtjjenpmahmbafaaGreatDoor.Ed
open Js Pt
end Go.Proofs.YtjjenpmahmbafaaGreatDoor.Ed
namespace Go.Proofs.YtjjenpmahmbafaaGreatDoor
open Go.RowKit Pt Js
theorem EditPost.parts {S : Nat → Prop} {r : Ed.Ch} {w w' : World} {e : Ending} (h : EditPost S r w e w') : ∃ (y : Value) (c : Nat) (z : Vl), e = .returned (.tuple #[y, .int .i64 c]) ∧ z.In (w'.on fun b => S b ∨ w.heap.size ≤ b) y ∧ Below w.heap.size w w' ∧ ((c = 0 ∧ r = .ok z) ∨ (0 < c ∧ c ≤ 14 ∧ r = .bad c)) := by
  obtain ⟨hb, ⟨u, y, rfl, rfl, h⟩ | ⟨c, y, rfl, h1, h2, rfl, h⟩⟩ := h
  · exact ⟨y, 0, u, rfl, h, hb, .inl ⟨rfl, rfl⟩⟩
  · exact ⟨y, c, _, rfl, h, hb, .inr ⟨h1, h2, rfl⟩⟩
end Go.Proofs.YtjjenpmahmbafaaGreatDoor

