/- The walks of layer 9 (apply): the document's Apply. (Region 4 by gen_be.py.) -/
import Derived.Test.YtjjenpmahmbafaaGreatDoorBc
import Derived.Test.YtjjenpmahmbafaaGreatDoorAl
import Derived.Deep.RegionHeld3
import Derived.KernelRfl
import Derived.Test.YtjjenpmahmbafaaGreatDoorMe
import Derived.Test.YtjjenpmahmbafaaGreatDoorMr
namespace Go.Proofs.YtjjenpmahmbafaaGreatDoor
open Go.RowKit Pt Js Oq

theorem CellsAt.eleven {c : Cl} {g o : Nat} {c0 c1 c2 c3 c4 c5 c6 c7 c8 c9 c10 : Value} (h : CellsAt c g o (.agg #[c0, c1, c2, c3, c4, c5, c6, c7, c8, c9, c10])) :
    c ⟨g, o, none⟩ = some c0 ∧ c ⟨g, o + 1, none⟩ = some c1 ∧ c ⟨g, o + 2, none⟩ = some c2 ∧ c ⟨g, o + 3, none⟩ = some c3 ∧ c ⟨g, o + 4, none⟩ = some c4 ∧ c ⟨g, o + 5, none⟩ = some c5 ∧ c ⟨g, o + 6, none⟩ = some c6 ∧ c ⟨g, o + 7, none⟩ = some c7 ∧ c ⟨g, o + 8, none⟩ = some c8 ∧ c ⟨g, o + 9, none⟩ = some c9 ∧ c ⟨g, o + 10, none⟩ = some c10 :=
  ⟨h 0 _ rfl, h 1 _ rfl, h 2 _ rfl, h 3 _ rfl, h 4 _ rfl, h 5 _ rfl, h 6 _ rfl, h 7 _ rfl, h 8 _ rfl, h 9 _ rfl, h 10 _ rfl⟩

theorem via9 {K : Act → World → Prop} {a : Act} {w' : World} (F : World → Prop) (hF : F w') (h : ∀ W, F W → K a W) : K a w' := h w' hF

def ApplyPost (S : Nat → Prop) (r : Ap.Rs) (w : World) (e : Ending) (w' : World) : Prop :=
  Below w.heap.size w w' ∧ ((∃ u y, r = .ok u ∧ e = .returned (.tuple #[y, .int .i64 0, .int .i64 0]) ∧ u.In (w'.on fun b => S b ∨ w.heap.size ≤ b) y) ∨
    (∃ (c i : Nat) (y : Value), r = .bad c i ∧ 0 < c ∧ c ≤ 14 ∧ e = .returned (.tuple #[y, .int .i64 c, .int .i64 i]) ∧ Ps.mkN.In (w'.on fun b => S b ∨ w.heap.size ≤ b) y))

structure Box9 (w : World) (S : Nat → Prop) (V : Array Value) (wr : World) : Prop where
  v : Blk wr w.heap.size 28 V
  r : Blk wr (w.heap.size + 1) 28 zeroC
  below : Below w.heap.size w wr
  hS : ∀ b, S b → b < w.heap.size
section
variable {w wr w' w'' : World} {S : Nat → Prop} {V : Array Value}
theorem Box9.on (h : Box9 w S V wr) (hb : Below wr.heap.size wr w') : Box9 w S V w' := ⟨h.v.on hb, h.r.on hb, h.below.trans (hb.mono h.below.size), h.hS⟩
theorem Box9.drew (h : Box9 w S V wr) : Box9 w S V wr.drew := ⟨h.v, h.r, h.below.drew, h.hS⟩
theorem Box9.size (h : Box9 w S V wr) : w.heap.size + 2 ≤ wr.heap.size := h.r.lt
theorem Box9.setv {c0 c1 c2 c3 c4 c5 c6 c7 : Value} (h : Box9 w S #[c0, c1, c2, c3, c4, c5, c6, c7] wr) (v0 v1 v2 v3 v4 v5 v6 v7 : Value) : Box9 w S #[v0, v1, v2, v3, v4, v5, v6, v7] (set8 wr w.heap.size v0 v1 v2 v3 v4 v5 v6 v7) :=
  ⟨h.v.set8 _ _ _ _ _ _ _ _, h.r.set8o (by omega) _ _ _ _ _ _ _ _, below_set8 h.below (Nat.le_refl _) _ _ _ _ _ _ _ _, h.hS⟩
def Off9 (w : World) (S : Nat → Prop) (b : Nat) : Prop := S b ∨ w.heap.size + 2 ≤ b
theorem Box9.leV (h : Box9 w S V wr) (v0 v1 v2 v3 v4 v5 v6 v7 : Value) : Cl.le (wr.on (Off9 w S)) ((set8 wr w.heap.size v0 v1 v2 v3 v4 v5 v6 v7).on (Off9 w S)) :=
  on_keep (fun _ hb _ => hb) (fun b hb _ => heap_set8 _ _ _ (by rcases hb with k | k; have := h.hS b k; omega; omega) _ _ _ _ _ _ _ _)
theorem Box9.leR (h : Box9 w S V wr) (v0 v1 v2 v3 v4 v5 v6 v7 : Value) : Cl.le (wr.on (Off9 w S)) ((set8 wr (w.heap.size + 1) v0 v1 v2 v3 v4 v5 v6 v7).on fun b => S b ∨ w.heap.size ≤ b) :=
  on_keep (fun _ hb _ => hb.imp id (fun k => by omega)) (fun b hb _ => heap_set8 _ _ _ (by rcases hb with k | k; have := h.hS b k; omega; omega) _ _ _ _ _ _ _ _)
theorem Box9.leS (h : Box9 w S V wr) : Cl.le (w.on S) (wr.on (Off9 w S)) := on_keep (fun _ h _ => .inl h) (fun b _ h2 => h.below.block b h2)
theorem Box9.bad (h : Box9 w S V wr) {r : Ap.Rs} {c i : Nat} (hr : r = .bad c i) (h1 : 0 < c) (h2 : c ≤ 14) :
    ApplyPost S r w (.returned (.tuple #[.agg zeroC, .int .i64 c, .int .i64 i])) (set8 wr (w.heap.size + 1) (.int .i64 0) (.bool false) (.bool false) (.string ⟨#[]⟩) (.int .i64 0) (.string ⟨#[]⟩) (.slice none 0 0) (.slice none 0 0)) :=
  ⟨below_set8 h.below (by omega) _ _ _ _ _ _ _ _, .inr ⟨c, i, _, hr, h1, h2, rfl, leaf_in _ 0 false Nm.Num.zero []⟩⟩
theorem Box9.ok (h : Box9 w S V wr) {r : Ap.Rs} {u : Vl} (hr : r = .ok u) {j_1 : Int} {j_2 j_3 : Bool} {j_4 : List UInt8} {j_5 : Int} {j_6 : List UInt8} {j_7 : Option Addr} {j_8 j_9 : Nat} {j_a : Option Addr} {j_b j_c : Nat} (hu : u.In (wr.on (Off9 w S)) (.agg #[.int .i64 j_1, .bool j_2, .bool j_3, .string ⟨j_4.toArray⟩, .int .i64 j_5, .string ⟨j_6.toArray⟩, .slice j_7 j_8 j_9, .slice j_a j_b j_c])) :
    ApplyPost S r w (.returned (.tuple #[.agg #[.int .i64 j_1, .bool j_2, .bool j_3, .string ⟨j_4.toArray⟩, .int .i64 j_5, .string ⟨j_6.toArray⟩, .slice j_7 j_8 j_9, .slice j_a j_b j_c], .int .i64 0, .int .i64 0])) (set8 wr (w.heap.size + 1) (.int .i64 j_1) (.bool j_2) (.bool j_3) (.string ⟨j_4.toArray⟩) (.int .i64 j_5) (.string ⟨j_6.toArray⟩) (.slice j_7 j_8 j_9) (.slice j_a j_b j_c)) :=
  ⟨below_set8 h.below (by omega) _ _ _ _ _ _ _ _, .inl ⟨u, _, hr, rfl, In.keep (h.leR (.int .i64 j_1) (.bool j_2) (.bool j_3) (.string ⟨j_4.toArray⟩) (.int .i64 j_5) (.string ⟨j_6.toArray⟩) (.slice j_7 j_8 j_9) (.slice j_a j_b j_c)) _ _ hu⟩⟩

def Old9 (w : World) (S : Nat → Prop) (wr : World) (b : Nat) : Prop := Off9 w S b ∧ b < wr.heap.size
end
theorem apply_step {v u z : Vl} {l : List Opn} {j : Nat} (hj : j < l.length) (h : Ap.applyAt v l 0 = Ap.applyAt u (l.drop j) j) : (Ap.done u (l[j]'hj) = .ok z → Ap.applyAt v l 0 = Ap.applyAt z (l.drop (j + 1)) (j + 1)) ∧ (∀ c, Ap.done u (l[j]'hj) = .bad c → Ap.applyAt v l 0 = .bad c j) := by
  rw [List.drop_eq_getElem_cons hj, Ap.applyAt_cons] at h
  exact ⟨fun e => by rw [e] at h; exact h, fun c e => by rw [e] at h; exact h⟩
theorem apply_end {v u : Vl} {l : List Opn} (h : Ap.applyAt v l 0 = Ap.applyAt u (l.drop l.length) l.length) : Ap.applyAt v l 0 = .ok u := by
  rw [List.drop_length] at h; exact h
theorem done_bad {u : Vl} {o : Opn} {c : Nat} (h : Ap.doOp u o = .bad c) : Ap.done u o = .bad c := by unfold Ap.done; rw [h]
theorem done_big {u z : Vl} {o : Opn} (h : Ap.doOp u o = .ok z) (h1 : 3000 < z.size) : Ap.done u o = .bad 5 := by unfold Ap.done; rw [h]; simp only; rw [if_pos h1]
theorem done_deep {u z : Vl} {o : Opn} (h : Ap.doOp u o = .ok z) (h1 : ¬ 3000 < z.size) (h2 : 32 < z.depth) : Ap.done u o = .bad 3 := by unfold Ap.done; rw [h]; simp only; rw [if_neg h1, if_pos h2]

end Go.Proofs.YtjjenpmahmbafaaGreatDoor

