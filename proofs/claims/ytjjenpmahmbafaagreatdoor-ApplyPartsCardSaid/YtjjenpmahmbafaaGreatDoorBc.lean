/- Bc: Bb Bc, in one text. -/
import Derived.Test.YtjjenpmahmbafaaGreatDoorBa
import Derived.Test.YtjjenpmahmbafaaGreatDoorAb
import Derived.Test.YtjjenpmahmbafaaGreatDoorJa
import Derived.Test.YtjjenpmahmbafaaGreatDoorJi
import Derived.Test.YtjjenpmahmbafaaGreatDoorJd
import Derived.Deep.CutRange
import Derived.Deep.RegionLaw
import Derived.Test.YtjjenpmahmbafaaGreatDoorJn
import Derived.Test.YtjjenpmahmbafaaGreatDoorMr
import Derived.Test.YtjjenpmahmbafaaGreatDoorRg
import Derived.Test.YtjjenpmahmbafaaGreatDoorPw
import Derived.StillTailTactics
namespace Go.Proofs.YtjjenpmahmbafaaGreatDoor
open Go.RowKit Pt Js Oq

theorem Strs.take {c : Cl} {A : Option Addr} {l : List (List UInt8)} (h : Strs c A l) (k : Nat) : Strs c A (l.take k) := fun i n hi => by
  have hil := (List.getElem?_eq_some_iff.1 hi).1
  rw [List.getElem?_take_of_lt (by rw [List.length_take] at hil; omega)] at hi
  exact h i n hi
theorem OIn.form4 {c : Cl} {q : Nat} {p f : List (List UInt8)} {u : Vl} {x : Value} (hx : (Opn.mk q p f u).In c x) :
    ∃ (A : Option Addr) (e : Nat) (F : Option Addr) (d : Nat) (k : Int) (b neg : Bool) (dg : List UInt8) (ex : Int) (s : List UInt8) (A1 : Option Addr) (l1 p1 : Nat) (B1 : Option Addr) (m1 d1 : Nat),
      x = opV q A p.length e F f.length d k b neg dg ex s (.slice A1 l1 p1) (.slice B1 m1 d1) ∧ Strs c A p ∧ p.length ≤ e ∧ e ≤ maxLen ∧ Strs c F f ∧ f.length ≤ d ∧ d ≤ maxLen ∧
      u.In c (vlV k b neg dg ex s (.slice A1 l1 p1) (.slice B1 m1 d1)) := hx

structure Do9 (w : World) (S : Nat → Prop) (V O : Array Value) (wr : World) : Prop where
  v : Blk wr w.heap.size 28 V
  o : Blk wr (w.heap.size + 1) 52 O
  r : Blk wr (w.heap.size + 2) 28 zeroC
  below : Below w.heap.size w wr
  hS : ∀ b, S b → b < w.heap.size
section
variable {w wr w' : World} {S : Nat → Prop} {V O : Array Value}
theorem Do9.on (h : Do9 w S V O wr) (hb : Below wr.heap.size wr w') : Do9 w S V O w' := ⟨h.v.on hb, h.o.on hb, h.r.on hb, h.below.trans (hb.mono h.below.size), h.hS⟩
theorem Do9.drew (h : Do9 w S V O wr) : Do9 w S V O wr.drew := ⟨h.v, h.o, h.r, h.below.drew, h.hS⟩
theorem Do9.size (h : Do9 w S V O wr) : w.heap.size + 3 ≤ wr.heap.size := h.r.lt
theorem Do9.leV (h : Do9 w S V O wr) : Cl.le (w.on S) (wr.on S) := on_keep (fun _ h _ => h) (fun b _ h2 => h.below.block b h2)
theorem Do9.leFin (h : Do9 w S V O wr) {B : Nat} (hB : w.heap.size + 3 ≤ B) (v0 v1 v2 v3 v4 v5 v6 v7 : Value) : Cl.le (wr.on fun b => S b ∨ B ≤ b) ((set8 wr (w.heap.size + 2) v0 v1 v2 v3 v4 v5 v6 v7).on fun b => S b ∨ w.heap.size ≤ b) :=
  on_keep (fun b hb _ => hb.imp id (fun k => by omega)) (fun b hb _ => heap_set8 _ _ _ (by rcases hb with k | k; have := h.hS b k; omega; omega) _ _ _ _ _ _ _ _)
theorem Do9.belowFin (h : Do9 w S V O wr) (v0 v1 v2 v3 v4 v5 v6 v7 : Value) : Below w.heap.size w (set8 wr (w.heap.size + 2) v0 v1 v2 v3 v4 v5 v6 v7) := below_set8 h.below (by omega) _ _ _ _ _ _ _ _
theorem Do9.bad (h : Do9 w S V O wr) {r : Ed.Ch} {c : Nat} (hr : r = .bad c) (h1 : 0 < c) (h2 : c ≤ 14) :
    EditPost S r w (.returned (.tuple #[.agg zeroC, .int .i64 c])) (set8 wr (w.heap.size + 2) (.int .i64 0) (.bool false) (.bool false) (.string ⟨#[]⟩) (.int .i64 0) (.string ⟨#[]⟩) (.slice none 0 0) (.slice none 0 0)) :=
  ⟨h.belowFin _ _ _ _ _ _ _ _, .inr ⟨c, _, hr, h1, h2, rfl, leaf_in _ 0 false Nm.Num.zero []⟩⟩
end
theorem GetPost.parts9 {c : Cl} {r : Option Vl} {w w' : World} {e : Ending} (h : GetPost c r w e w') :
    ∃ y : Value, e = .returned (.tuple #[y, .bool r.isSome]) ∧ (r.getD Ps.mkN).In c y ∧ Below w.heap.size w w' := by
  obtain ⟨hb, ⟨u, y, rfl, rfl, h⟩ | ⟨rfl, y, rfl, h⟩⟩ := h
  · exact ⟨y, rfl, h, hb⟩
  · exact ⟨y, rfl, h, hb⟩

end Go.Proofs.YtjjenpmahmbafaaGreatDoor

namespace Go.Proofs.YtjjenpmahmbafaaGreatDoor
open Go.RowKit Pt Js Oq

theorem EditPost.parts9 {S : Nat → Prop} {r : Ed.Ch} {w w' : World} {e : Ending} (h : EditPost S r w e w') : ∃ (y : Value) (c : Nat) (z : Vl), e = .returned (.tuple #[y, .int .i64 c]) ∧ z.In (w'.on fun b => S b ∨ w.heap.size ≤ b) y ∧ Below w.heap.size w w' ∧ ((c = 0 ∧ r = .ok z) ∨ (0 < c ∧ c ≤ 14 ∧ r = .bad c ∧ z = Ps.mkN)) := by
  obtain ⟨hb, ⟨u, y, rfl, rfl, h⟩ | ⟨c, y, rfl, h1, h2, rfl, h⟩⟩ := h
  · exact ⟨y, 0, u, rfl, h, hb, .inl ⟨rfl, rfl⟩⟩
  · exact ⟨y, c, _, rfl, h, hb, .inr ⟨h1, h2, rfl, rfl⟩⟩
theorem Do9.edit {w wr : World} {S : Nat → Prop} {V O : Array Value} (h : Do9 w S V O wr) {B : Nat} (hB : w.heap.size + 3 ≤ B) {r : Ed.Ch} {c : Nat} {z : Vl} {j_1 : Int} {j_2 j_3 : Bool} {j_4 : List UInt8} {j_5 : Int} {j_6 : List UInt8} {j_7 : Option Addr} {j_8 j_9 : Nat} {j_a : Option Addr} {j_b j_c : Nat} (hz : z.In (wr.on fun b => S b ∨ B ≤ b) (.agg #[.int .i64 j_1, .bool j_2, .bool j_3, .string ⟨j_4.toArray⟩, .int .i64 j_5, .string ⟨j_6.toArray⟩, .slice j_7 j_8 j_9, .slice j_a j_b j_c])) (hr : (c = 0 ∧ r = .ok z) ∨ (0 < c ∧ c ≤ 14 ∧ r = .bad c ∧ z = Ps.mkN)) :
    EditPost S r w (.returned (.tuple #[.agg #[.int .i64 j_1, .bool j_2, .bool j_3, .string ⟨j_4.toArray⟩, .int .i64 j_5, .string ⟨j_6.toArray⟩, .slice j_7 j_8 j_9, .slice j_a j_b j_c], .int .i64 c])) (set8 wr (w.heap.size + 2) (.int .i64 j_1) (.bool j_2) (.bool j_3) (.string ⟨j_4.toArray⟩) (.int .i64 j_5) (.string ⟨j_6.toArray⟩) (.slice j_7 j_8 j_9) (.slice j_a j_b j_c)) := by
  have hi := In.keep (h.leFin hB (.int .i64 j_1) (.bool j_2) (.bool j_3) (.string ⟨j_4.toArray⟩) (.int .i64 j_5) (.string ⟨j_6.toArray⟩) (.slice j_7 j_8 j_9) (.slice j_a j_b j_c)) _ _ hz
  rcases hr with ⟨rfl, hr⟩ | ⟨h1, h2, hr, rfl⟩
  · exact ⟨h.belowFin _ _ _ _ _ _ _ _, .inl ⟨z, _, hr, rfl, hi⟩⟩
  · exact ⟨h.belowFin _ _ _ _ _ _ _ _, .inr ⟨c, _, hr, h1, h2, rfl, hi⟩⟩
theorem Do9.old {w wr : World} {S : Nat → Prop} {V O : Array Value} (h : Do9 w S V O wr) {r : Ed.Ch} {z : Vl} {j_1 : Int} {j_2 j_3 : Bool} {j_4 : List UInt8} {j_5 : Int} {j_6 : List UInt8} {j_7 : Option Addr} {j_8 j_9 : Nat} {j_a : Option Addr} {j_b j_c : Nat} (hz : z.In (w.on S) (.agg #[.int .i64 j_1, .bool j_2, .bool j_3, .string ⟨j_4.toArray⟩, .int .i64 j_5, .string ⟨j_6.toArray⟩, .slice j_7 j_8 j_9, .slice j_a j_b j_c])) (hr : r = .ok z) :
    EditPost S r w (.returned (.tuple #[.agg #[.int .i64 j_1, .bool j_2, .bool j_3, .string ⟨j_4.toArray⟩, .int .i64 j_5, .string ⟨j_6.toArray⟩, .slice j_7 j_8 j_9, .slice j_a j_b j_c], .int .i64 0])) (set8 wr (w.heap.size + 2) (.int .i64 j_1) (.bool j_2) (.bool j_3) (.string ⟨j_4.toArray⟩) (.int .i64 j_5) (.string ⟨j_6.toArray⟩) (.slice j_7 j_8 j_9) (.slice j_a j_b j_c)) :=
  ⟨h.belowFin _ _ _ _ _ _ _ _, .inl ⟨z, _, hr, rfl, In.keep ((h.leV.trans (on_sub fun _ k => .inl k)).trans (h.leFin (Nat.le_refl _) (.int .i64 j_1) (.bool j_2) (.bool j_3) (.string ⟨j_4.toArray⟩) (.int .i64 j_5) (.string ⟨j_6.toArray⟩) (.slice j_7 j_8 j_9) (.slice j_a j_b j_c))) _ _ hz⟩⟩
theorem Do9.setv {w wr : World} {S : Nat → Prop} {c0 c1 c2 c3 c4 c5 c6 c7 : Value} {O : Array Value} (h : Do9 w S #[c0, c1, c2, c3, c4, c5, c6, c7] O wr) (v0 v1 v2 v3 v4 v5 v6 v7 : Value) : Do9 w S #[v0, v1, v2, v3, v4, v5, v6, v7] O (set8 wr w.heap.size v0 v1 v2 v3 v4 v5 v6 v7) :=
  ⟨h.v.set8 _ _ _ _ _ _ _ _, h.o.set8o (by omega) _ _ _ _ _ _ _ _, h.r.set8o (by omega) _ _ _ _ _ _ _ _, below_set8 h.below (Nat.le_refl _) _ _ _ _ _ _ _ _, h.hS⟩
section
variable {v u : Vl} {q : Nat} {p f : List (List UInt8)}
end
end Go.Proofs.YtjjenpmahmbafaaGreatDoor


