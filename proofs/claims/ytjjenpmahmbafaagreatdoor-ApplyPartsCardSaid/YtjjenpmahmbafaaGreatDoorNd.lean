/- Nd: Ye Yg, in one text. -/
import Derived.Test.YtjjenpmahmbafaaGreatDoorVb
import Derived.Test.YtjjenpmahmbafaaGreatDoorNc
import Derived.Test.YtjjenpmahmbafaaGreatDoorQa
import Derived.Maps.OwnSet
import Derived.Maps.Views
import Derived.StringKeys
import Derived.Test.YtjjenpmahmbafaaGreatDoorMq
namespace Go.Proofs.YtjjenpmahmbafaaGreatDoor
open Go.RowKit Js
open Go.Maps (Keyed)

section
variable {P : Program} {K E T : TypeId} {w w' : World} {b n : Nat} {S : List UInt8 → Bool}
end
structure Sole2 (rb mb : Nat) (w w' : World) : Prop where
  os : w'.os = w.os
  tape : w'.tape = w.tape
  output : w'.output = w.output
  size : w.heap.size ≤ w'.heap.size
  block : ∀ k, k < w.heap.size → k ≠ rb → k ≠ mb → w'.heap[k]? = w.heap[k]?
section
variable {rb mb : Nat} {w w' w'' : World}
theorem Sole.two (h : Sole rb w w') : Sole2 rb mb w w' := ⟨h.os, h.tape, h.output, h.size, fun k hk hr _ => h.block k hk hr⟩
theorem Sole2.refl (rb mb : Nat) (w : World) : Sole2 rb mb w w := ⟨rfl, rfl, rfl, Nat.le_refl _, fun _ _ _ _ => rfl⟩
theorem Sole2.trans (h : Sole2 rb mb w w') (k : Sole2 rb mb w' w'') : Sole2 rb mb w w'' :=
  ⟨k.os.trans h.os, k.tape.trans h.tape, k.output.trans h.output, Nat.le_trans h.size k.size, fun j hj hr hm => (k.block j (Nat.lt_of_lt_of_le hj h.size) hr hm).trans (h.block j hj hr hm)⟩
theorem Sole2.drewN (h : Sole2 rb mb w w') (n : Nat) : Sole2 rb mb w (w'.drewN n) := ⟨h.os, h.tape, h.output, h.size, h.block⟩
theorem Sole2.drew (h : Sole2 rb mb w w') : Sole2 rb mb w w'.drew := ⟨h.os, h.tape, h.output, h.size, h.block⟩
theorem Sole2.of_below (h : Below w.heap.size w w') : Sole2 rb mb w w' := (Sole.of_below h).two
theorem Sole2.alloc (h : Sole2 rb mb w w') (o : Obj) : Sole2 rb mb w (w'.alloc o) := h.trans (Sole.alloc (.refl _ _) o).two
theorem Sole2.set (h : Sole2 rb mb w w') (i : Nat) (u : Value) : Sole2 rb mb w (w'.setCell ⟨rb, i, none⟩ u) := h.trans (Sole.set (.refl _ _) i u).two
theorem Sole2.setNew (h : Sole2 rb mb w w') {g : Nat} (hg : w.heap.size ≤ g) (i : Nat) (u : Value) : Sole2 rb mb w (w'.setCell ⟨g, i, none⟩ u) :=
  ⟨h.os, h.tape, h.output, by simpa [World.setCell] using h.size, fun k hk hr hm => (Below.heap_setCell _ _ _ _ (by show k ≠ g; omega)).trans (h.block k hk hr hm)⟩
theorem Sole2.blk {g : Nat} {t : TypeId} {cs : Array Value} (h : Sole2 rb mb w w') (hb : Blk w g t cs) (hr : g ≠ rb) (hm : g ≠ mb) : Blk w' g t cs := (h.block g hb.lt hr hm).trans hb
theorem Sole2.one (h : Sole2 rb mb w w') (hm : w.heap.size ≤ mb) : Sole rb w w' := ⟨h.os, h.tape, h.output, h.size, fun k hk hr => h.block k hk hr (by omega)⟩
end

end Go.Proofs.YtjjenpmahmbafaaGreatDoor

namespace Go.Proofs.YtjjenpmahmbafaaGreatDoor
open Go.RowKit Js
theorem RowM.more {w w1 w3 : World} {rb mb B : Nat} {A : Option Addr} {cp : Nat} {acc : List Js.Mem} (hB : B ≤ w.heap.size) (hr : rb < B) (hmb : mb < B) (hS : Sole2 rb mb w w1) {key : List UInt8} {v : Vl} {cs : Array Value} (hv : v.In (w1.on (w.heap.size ≤ ·)) (.agg cs)) (hc1 : ∀ u ∈ cs.toList, u.oneCell' = true)
    {flat : List Value} (hown : w.ownsRow B 69 9 (.slice A acc.length cp) acc.length flat) (hone : ∀ u ∈ flat, u.oneCell' = true) (hel : ∀ i p, acc[i]? = some p → flat[i * 9]? = some (.string ⟨p.1.toArray⟩) ∧ ∃ x, p.2.In (w.on (Off B A)) x ∧ ∀ (j : Nat) u, x.cells[j]? = some u → flat[i * 9 + 1 + j]? = some u)
    {T : TypeId} {os : Array Value} {g cap : Nat} (h3 : w3.ownsRow B 69 9 (.slice (some ⟨g, 0, none⟩) (acc.length + 1) cap) (acc.length + 1) (flat ++ (.string ⟨key.toArray⟩ :: cs.toList))) (hg : (w1.alloc (.cells os T)).grownBy w3 (Value.slice A acc.length cp).ownBlock)
    (hat : (Value.slice A acc.length cp).ownBlock = some g ∨ g = (w1.alloc (.cells os T)).heap.size) : RowM w3 B (some ⟨g, 0, none⟩) cap (acc ++ [(key, v)]) := by
  have hl := own_le hown
  have hA : ∀ k, (∀ ad, A = some ad → k ≠ ad.block) ↔ some k ≠ (Value.slice A acc.length cp).ownBlock := by
    intro k
    cases A with
    | none => simp [Value.ownBlock]
    | some ad => simp [Value.ownBlock]
  have hsz : (w1.alloc (.cells os T)).heap.size = w1.heap.size + 1 := by simp
  have hcell : ∀ p u, B ≤ p.block → (∀ ad, A = some ad → p.block ≠ ad.block) → w1.cell? p = some u → w3.cell? p = some u ∧ p.block ≠ g := by
    intro p u hp hpa hc
    have hlt := World.block_lt_of_cell? w1 _ hc
    refine ⟨?_, ?_⟩
    · rw [hg.cell_far p (by rw [hsz]; omega) ((hA _).1 hpa), World.cell?_alloc_lt _ _ _ hlt]; exact hc
    · rcases hat with h | h
      · intro e; exact (hA _).1 hpa (by rw [h, e])
      · omega
  have hfl : flat.length = acc.length * 9 := hown.1
  refine ⟨flat ++ (.string ⟨key.toArray⟩ :: cs.toList), ?_, ?_, fun i u hi => ?_⟩
  · rw [List.length_append, List.length_singleton]; exact h3
  · intro u hu
    rcases List.mem_append.1 hu with hu | hu
    · exact hone u hu
    · rcases List.mem_cons.1 hu with rfl | hu
      · rfl
      · exact hc1 u hu
  · by_cases hlt : i < acc.length
    · rw [List.getElem?_append_left hlt] at hi
      obtain ⟨hk, x, hx, hc⟩ := hel i u hi
      refine ⟨?_, x, In.keep (fun p y hp => ?_) _ _ hx, fun j y hy => ?_⟩
      · rw [List.getElem?_append_left (List.getElem?_eq_some_iff.1 hk).1]; exact hk
      · obtain ⟨⟨hs1, hs2⟩, hpc⟩ := on_some.1 hp
        have hlt' := World.block_lt_of_cell? w _ hpc
        have hpc1 : w1.cell? p = some y := by rw [World.cell?_of_block (w := w) (hS.block _ hlt' (by omega) (by omega))]; exact hpc
        obtain ⟨k1, k2⟩ := hcell p y hs1 hs2 hpc1
        exact on_some.2 ⟨⟨hs1, fun ad e => by cases e; exact k2⟩, k1⟩
      · have := hc j y hy
        rw [List.getElem?_append_left (List.getElem?_eq_some_iff.1 this).1]
        exact this
    · obtain rfl : i = acc.length := by
        have := (List.getElem?_eq_some_iff.1 hi).1
        rw [List.length_append, List.length_singleton] at this; omega
      rw [List.getElem?_append_right (Nat.le_refl _)] at hi
      simp at hi
      subst hi
      refine ⟨?_, .agg cs, In.keep (fun p y hp => ?_) _ _ hv, fun j y hy => ?_⟩
      · rw [List.getElem?_append_right (by omega), hfl, Nat.sub_self]; rfl
      · obtain ⟨hs1, hpc⟩ := on_some.1 hp
        have hAl : ∀ ad, A = some ad → ad.block < w.heap.size := fun ad e => by
          obtain ⟨g', rfl, _, h⟩ := hl.2.2.2 ad e; exact h
        obtain ⟨k1, k2⟩ := hcell p y (by omega) (fun ad e => by have := hAl ad e; omega) hpc
        exact on_some.2 ⟨⟨by omega, fun ad e => by cases e; exact k2⟩, k1⟩
      · rw [List.getElem?_append_right (by omega), hfl, show acc.length * 9 + 1 + j - acc.length * 9 = j + 1 by omega, List.getElem?_cons_succ]
        simpa [Value.cells] using hy

end Go.Proofs.YtjjenpmahmbafaaGreatDoor


