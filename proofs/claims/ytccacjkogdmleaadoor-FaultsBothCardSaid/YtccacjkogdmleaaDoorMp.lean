/- Mp: Qa Mp, in one text. -/
import Derived.Test.YtccacjkogdmleaaDoorMg
import Derived.Test.YtccacjkogdmleaaDoorMc
import Derived.Test.YtccacjkogdmleaaDoorMo
import Derived.Test.YtccacjkogdmleaaDoorSf
import Derived.Test.YtccacjkogdmleaaDoorTg
import Derived.Deep.LoopGhost
import Derived.Deep.RegionHeld3
/- The walks of the document's Reader, first part: fail, peek. -/
namespace Go.Proofs.YtccacjkogdmleaaDoor
open Go.RowKit Js

/-- A call has changed what was there in one block alone. -/
structure Sole (rb : Nat) (w w' : World) : Prop where
  os : w'.os = w.os
  tape : w'.tape = w.tape
  output : w'.output = w.output
  size : w.heap.size ≤ w'.heap.size
  block : ∀ k, k < w.heap.size → k ≠ rb → w'.heap[k]? = w.heap[k]?

section
variable {rb : Nat} {w w' w'' : World}
theorem Sole.refl (rb : Nat) (w : World) : Sole rb w w := ⟨rfl, rfl, rfl, Nat.le_refl _, fun _ _ _ => rfl⟩
theorem Sole.trans (h : Sole rb w w') (k : Sole rb w' w'') : Sole rb w w'' :=
  ⟨k.os.trans h.os, k.tape.trans h.tape, k.output.trans h.output, Nat.le_trans h.size k.size, fun i hi hr => (k.block i (Nat.lt_of_lt_of_le hi h.size) hr).trans (h.block i hi hr)⟩
theorem Sole.of_below (h : Below w.heap.size w w') : Sole rb w w' := ⟨h.os, h.tape, h.output, h.size, fun k hk _ => h.block k hk⟩
theorem Sole.drewN (h : Sole rb w w') (n : Nat) : Sole rb w (w'.drewN n) := ⟨h.os, h.tape, h.output, h.size, h.block⟩
theorem Sole.drew (h : Sole rb w w') : Sole rb w w'.drew := ⟨h.os, h.tape, h.output, h.size, h.block⟩
theorem Sole.alloc (h : Sole rb w w') (o : Obj) : Sole rb w (w'.alloc o) := h.trans (.of_below ((Below.refl _ _).alloc (Nat.le_refl _) _))
theorem Sole.set (h : Sole rb w w') (i : Nat) (u : Value) : Sole rb w (w'.setCell ⟨rb, i, none⟩ u) :=
  h.trans ⟨rfl, rfl, rfl, by simp [World.setCell], fun k _ hr => Below.heap_setCell _ _ _ _ hr⟩
/-- A store into a block that is younger. -/
theorem Sole.setNew (h : Sole rb w w') {g : Nat} (hg : w.heap.size ≤ g) (i : Nat) (u : Value) : Sole rb w (w'.setCell ⟨g, i, none⟩ u) :=
  ⟨h.os, h.tape, h.output, by simpa [World.setCell] using h.size, fun k hk hr => by rw [Below.heap_setCell _ _ _ _ (by show k ≠ g; omega)]; exact h.block k hk hr⟩
theorem Sole.below {B : Nat} (h : Sole rb w w') (hB : B ≤ rb) (hs : B ≤ w.heap.size) : Below B w w' := ⟨h.os, h.tape, h.output, h.size, fun k hk => h.block k (by omega) (by omega)⟩
theorem Sole.cell (h : Sole rb w w') {p : Addr} (hp : p.block < w.heap.size) (hr : p.block ≠ rb) : w'.cell? p = w.cell? p := World.cell?_of_block (w := w) (h.block p.block hp hr)
theorem Sole.blk {g : Nat} {t : TypeId} {cs : Array Value} (h : Sole rb w w') (hb : Blk w g t cs) (hr : g ≠ rb) : Blk w' g t cs := (h.block g hb.lt hr).trans hb
/-- A reading through younger blocks stays. -/
theorem Sole.le {B : Nat} (h : Sole rb w w') (hB : rb < B) : Cl.le (w.on (B ≤ ·)) (w'.on (B ≤ ·)) := fun p u hp => by
  obtain ⟨hb, hc⟩ := on_some.1 hp
  exact on_some.2 ⟨hb, by rw [h.cell (World.block_lt_of_cell? w _ hc) (by omega)]; exact hc⟩
end
theorem Blk.five {w : World} {g : Nat} {t : TypeId} {c0 c1 c2 c3 c4 : Value} (h : Blk w g t #[c0, c1, c2, c3, c4]) :
    w.cell? ⟨g, 0, none⟩ = some c0 ∧ w.cell? ⟨g, 1, none⟩ = some c1 ∧ w.cell? ⟨g, 2, none⟩ = some c2 ∧ w.cell? ⟨g, 3, none⟩ = some c3 ∧ w.cell? ⟨g, 4, none⟩ = some c4 :=
  ⟨h.cell 0, h.cell 1, h.cell 2, h.cell 3, h.cell 4⟩

/-- The byte that stands at a place; -1: there is none. -/
def hd : List UInt8 → Int
  | [] => -1
  | c :: _ => c.toNat

end Go.Proofs.YtccacjkogdmleaaDoor

/- Mp: Qb Qc Qd, in one text. -/
/- The walks of the document's Reader, second part: blank. -/
namespace Go.Proofs.YtccacjkogdmleaaDoor
open Go.RowKit Js
end Go.Proofs.YtccacjkogdmleaaDoor

/- The walks of the document's Reader, third part: want. -/
namespace Go.Proofs.YtccacjkogdmleaaDoor
open Go.RowKit Js
end Go.Proofs.YtccacjkogdmleaaDoor

/- The walks of the document's Reader, fourth part: text, open. -/
namespace Go.Proofs.YtccacjkogdmleaaDoor
open Go.RowKit Js

/-- The reader's block, while a call of its own makes memory. -/
def ReadAt (rb : Nat) (s : ByteArray) (a d : Nat) (w w' : World) : Prop :=
  (w'.cell? ⟨rb, 0, none⟩ = some (.string s) ∧ w'.cell? ⟨rb, 1, none⟩ = some (.int .i64 a) ∧ w'.cell? ⟨rb, 2, none⟩ = some (.int .i64 d) ∧ w'.cell? ⟨rb, 3, none⟩ = some (.int .i64 0) ∧ w'.cell? ⟨rb, 4, none⟩ = some (.int .i64 0)) ∧ Below w.heap.size w w'
theorem ReadAt.on {rb : Nat} {s : ByteArray} {a d : Nat} {w W w1 : World} (h : ReadAt rb s a d w W) (hb : Below W.heap.size W w1) : ReadAt rb s a d w w1 := by
  obtain ⟨⟨h0, h1, h2, h3, h4⟩, h5⟩ := h
  have hc : ∀ i v, W.cell? ⟨rb, i, none⟩ = some v → w1.cell? ⟨rb, i, none⟩ = some v := fun i v h => (hb.cell (p := ⟨rb, i, none⟩) (World.block_lt_of_cell? W _ h)).trans h
  exact ⟨⟨hc _ _ h0, hc _ _ h1, hc _ _ h2, hc _ _ h3, hc _ _ h4⟩, h5.trans (hb.mono h5.size)⟩

end Go.Proofs.YtccacjkogdmleaaDoor


