/- Mm: Sj Sk Sl, in one text. -/
import Derived.Test.YtfolfibembplbaaGreatDoorMk
import Derived.Test.YtfolfibembplbaaGreatDoorMd
import Derived.Test.YtfolfibembplbaaGreatDoorMh
/- The walks of layer 2 (str), fifth part: character, the Builder's WriteRune. -/
namespace Go.Proofs.YtfolfibembplbaaGreatDoor
open Go.RowKit

/-- The two tables of Go's library that a character is told by. -/
abbrev Tabs (w : World) : Prop := Lib.Utf8Tabs 4 5 w

theorem Tabs.keep {w w' : World} {B : Nat} (h : Tabs w) (hb : Below B w w') (h1 : 4 < B) (h2 : 5 < B) : Tabs w' := by
  obtain ⟨a, b⟩ := h
  exact ⟨fun c hc => (hb.cell (p := ⟨_, c, none⟩) h1).trans (a c hc), fun i hi => ⟨(hb.cell (p := ⟨_, 2 * i, none⟩) h2).trans (b i hi).1, (hb.cell (p := ⟨_, 2 * i + 1, none⟩) h2).trans (b i hi).2⟩⟩
theorem Tabs.lt {w : World} (h : Tabs w) : 4 < w.heap.size ∧ 5 < w.heap.size :=
  ⟨World.block_lt_of_cell? w _ (h.1 0 (by decide)), World.block_lt_of_cell? w _ (h.2 0 (by decide)).1⟩
theorem Tabs.on {w w' : World} (h : Tabs w) (hb : Below w.heap.size w w') : Tabs w' := h.keep hb h.lt.1 h.lt.2

end Go.Proofs.YtfolfibembplbaaGreatDoor

/- The walks of layer 2 (str), sixth part: Unquote. -/
namespace Go.Proofs.YtfolfibembplbaaGreatDoor
open Go.RowKit
theorem builder_on {T e : TypeId} {B b : Nat} {bs : List Value} {w w' : World} (h : Lib.IsBuilder T e B b bs w) (hb : Below w.heap.size w w') : Lib.IsBuilder T e B b bs w' := by
  have hg : w.grownBy w' none := ⟨hb.os, hb.tape, hb.output, hb.size, fun k hk _ => hb.block k hk⟩
  rcases h with h | h
  all_goals
    have hlt := h.lt
    obtain ⟨hB, v, hbk, hown, hne⟩ := h
  · exact .inl ⟨hB, v, (hb.block b hlt).trans hbk, hown.kept hg (by cases v.ownBlock <;> simp), hne⟩
  · exact .inr ⟨hB, v, (hb.block b hlt).trans hbk, hown.kept hg (by cases v.ownBlock <;> simp), hne⟩

end Go.Proofs.YtfolfibembplbaaGreatDoor

/- The walks of layer 2 (str), seventh part: Quote. -/
namespace Go.Proofs.YtfolfibembplbaaGreatDoor
open Go.RowKit

theorem byteCells_one (out : List UInt8) (c : UInt8) : Lib.byteCells out ++ [Value.int .u8 (c.toNat : Int)] = Lib.byteCells (out ++ [c]) := by
  rw [Lib.byteCells_append]; rfl

theorem qb_take (l : List UInt8) (k : Nat) (h : k < l.length) : St.qb (l.take (k + 1)) = St.qb (l.take k) ++ St.qc l[k] := by
  rw [List.take_succ_eq_append_getElem h, St.qb_append]
  simp [St.qb]
theorem qc_len (c : UInt8) : (St.qc c).length ≤ 6 := by
  unfold St.qc; repeat' split
  all_goals simp
theorem qb_len (l : List UInt8) : (St.qb l).length ≤ 6 * l.length := by
  induction l with
  | nil => simp [St.qb]
  | cons c t ih => rw [St.qb_cons, List.length_append, List.length_cons]; have := qc_len c; omega

theorem hexTab : ∀ (d : Nat) (h : d < 16), (⟨#[48, 49, 50, 51, 52, 53, 54, 55, 56, 57, 97, 98, 99, 100, 101, 102]⟩ : ByteArray)[d]'h = St.hexd d := by decide

end Go.Proofs.YtfolfibembplbaaGreatDoor


