/- Nc: Nc Nd, in one text. -/
import Derived.Test.YtlhinefalkfjaaaGreatDoorMc
import Derived.Test.YtlhinefalkfjaaaGreatDoorVb
import Derived.Test.YtlhinefalkfjaaaGreatDoorMp
import Derived.Maps.OwnSet
import Derived.Maps.Views
import Derived.StringKeys
import Derived.Test.YtlhinefalkfjaaaGreatDoorMq
namespace Go.Proofs.YtlhinefalkfjaaaGreatDoor.Ps
open Js
end Go.Proofs.YtlhinefalkfjaaaGreatDoor.Ps

namespace Go.Proofs.YtlhinefalkfjaaaGreatDoor.Ps
open Js
def fin : R Vl → R Vl
  | .bad c l => .bad c l
  | .ok v [] => .ok v []
  | .ok _ (c :: u) => .bad 1 (c :: u).length
end Go.Proofs.YtlhinefalkfjaaaGreatDoor.Ps

namespace Go.Proofs.YtlhinefalkfjaaaGreatDoor.Ps
open Js

def core (f d : Nat) (t : List UInt8) : R Vl :=
  match skip t with
  | [] => .bad 1 0
  | c :: u => if c = 123 then obj f d u else if c = 91 then arr f d u else single c u
def has (acc : List Mem) (key : List UInt8) : Bool := acc.any fun p => decide (p.1 = key)
end Go.Proofs.YtlhinefalkfjaaaGreatDoor.Ps

namespace Go.Proofs.YtlhinefalkfjaaaGreatDoor
open Go.RowKit Js
open Go.Maps (Keyed)

section
variable {P : Program} {K E T : TypeId} {w w' : World} {b n : Nat} {S : List UInt8 → Bool}
theorem bool_inv (he : P.underlying E = some .bool) {v : Value} {z : DataW Unit × List MemPlace} (h : plainElem P E v = some z) : ∃ x, v = .bool x ∧ z = (.lit (.bool x), []) := by
  unfold plainElem at h
  rw [he] at h
  cases v <;> simp at h
  subst h
  exact ⟨_, rfl, rfl⟩
def SeenP (P : Program) (K E : TypeId) (w : World) (b n : Nat) (S : List UInt8 → Bool) : Prop :=
  ∃ D : DataW Unit, w.ownsMap P K (plainElem P E) b n D ∧ ∀ k, D.atKey (.string k) (.lit (.bool false)) = .lit (.bool (S k))
theorem SeenP.look (hK : P.underlying K = some .string) (hE : P.underlying E = some .bool) (hT : P.underlying T = some (.map K E)) (hz : (zeroValue E).run P w = .ok (.bool false) w) (h : SeenP P K E w b n S) (k : List UInt8) (hk : k.length ≤ 1000000000000) :
    (Instr.lookup T (.map (some b)) (.string ⟨k.toArray⟩) false).run P w = .ok (.bool (S k)) w := by
  obtain ⟨D, h1, h2⟩ := h
  have hkey : keyOf P K (.string ⟨k.toArray⟩) = some (.string k) := WideMaps.keyOf_string_mk hK (by show k.length ≤ maxLen; unfold maxLen; omega)
  obtain ⟨v, ps, hrun, hv⟩ := h1.lookup (Maps.string_keyed hK) hT hz (plainElem_bool hE false) hkey
  obtain ⟨x, rfl, hx⟩ := bool_inv hE hv
  rw [h2 k] at hx
  injection hx with hx1 _
  injection hx1 with hx1
  injection hx1 with hx1
  rw [hrun, hx1]
theorem SeenP.put (hK : P.underlying K = some .string) (hE : P.underlying E = some .bool) (hT : P.underlying T = some (.map K E)) (h : SeenP P K E w b n S) (k : List UInt8) (hk : k.length ≤ 1000000000000) (hn : n ≤ 1000000000000) :
    ∃ w', (Instr.mapUpdate T (.map (some b)) (.string ⟨k.toArray⟩) (.bool true)).run P w = .ok () w' ∧ SeenP P K E w' b (n + 1) (fun k' => decide (k = k') || S k') ∧ w.grownBy w' (some b) := by
  obtain ⟨D, h1, h2⟩ := h
  have hkey : keyOf P K (.string ⟨k.toArray⟩) = some (.string k) := WideMaps.keyOf_string_mk hK (by show k.length ≤ maxLen; unfold maxLen; omega)
  obtain ⟨w', hrun, r1, r2⟩ := h1.update (Maps.string_keyed hK) hT (by unfold maxLen; omega) hkey (plainElem_bool hE true)
  refine ⟨w', hrun, ⟨_, r1, fun k' => ?_⟩, r2⟩
  by_cases e : k = k'
  · subst e
    rw [Maps.atKey_put_same h1.isMap ((Maps.string_keyed hK).key hkey)]
    simp
  · rw [Maps.atKey_put_other (fun h => e (by injection h with h; exact h.symm)), h2 k']
    simp [e]
end

def SeenAt (w : World) (b n : Nat) (S : List UInt8 → Bool) : Prop := SeenP Tryz.prog 9 4 w b n S
theorem SeenAt.new (w : World) : SeenAt (w.alloc (.map #[] 0)) w.heap.size 0 (fun _ => false) := ⟨_, World.ownsMap_made w _ _ _, fun _ => rfl⟩
theorem SeenAt.lt {w : World} {b n : Nat} {S : List UInt8 → Bool} (h : SeenAt w b n S) : b < w.heap.size := by
  obtain ⟨D, h, _⟩ := h; exact h.lt
theorem SeenAt.far {w w' : World} {b n : Nat} {S : List UInt8 → Bool} (h : SeenAt w b n S) (hb : w'.heap[b]? = w.heap[b]?) : SeenAt w' b n S := by
  obtain ⟨D, ⟨es, clock, h1, h2⟩, h3⟩ := h
  exact ⟨D, ⟨es, clock, hb.trans h1, h2⟩, h3⟩
theorem SeenAt.congr {w : World} {b n : Nat} {S S' : List UInt8 → Bool} (h : SeenAt w b n S) (hS : ∀ k, S k = S' k) : SeenAt w b n S' := by
  obtain ⟨D, h1, h2⟩ := h
  exact ⟨D, h1, fun k => by rw [h2 k, hS k]⟩
set_option maxRecDepth 100000 in
theorem SeenAt.look {w : World} {b n : Nat} {S : List UInt8 → Bool} (h : SeenAt w b n S) (k : List UInt8) (hk : k.length ≤ 1000000000000) :
    (Instr.lookup 131 (.map (some b)) (.string ⟨k.toArray⟩) false).run Tryz.prog w = .ok (.bool (S k)) w :=
  SeenP.look Tryz.underlying9 Tryz.underlying4 Tryz.underlying131 (by kernel_rfl) h k hk
theorem SeenAt.put {w : World} {b n : Nat} {S : List UInt8 → Bool} (h : SeenAt w b n S) (k : List UInt8) (hk : k.length ≤ 1000000000000) (hn : n ≤ 1000000000000) :
    ∃ w', (Instr.mapUpdate 131 (.map (some b)) (.string ⟨k.toArray⟩) (.bool true)).run Tryz.prog w = .ok () w' ∧ SeenAt w' b (n + 1) (fun k' => decide (k = k') || S k') ∧ w.grownBy w' (some b) :=
  SeenP.put Tryz.underlying9 Tryz.underlying4 Tryz.underlying131 h k hk hn

structure Sole2 (rb mb : Nat) (w w' : World) : Prop where
  os : w'.os = w.os
  tape : w'.tape = w.tape
  output : w'.output = w.output
  size : w.heap.size ≤ w'.heap.size
  block : ∀ k, k < w.heap.size → k ≠ rb → k ≠ mb → w'.heap[k]? = w.heap[k]?
section
variable {rb mb : Nat} {w w' w'' : World}
theorem Sole.two (h : Sole rb w w') : Sole2 rb mb w w' := ⟨h.os, h.tape, h.output, h.size, fun k hk hr _ => h.block k hk hr⟩
theorem Sole2.refl (rb mb : Nat) (w : World) : Sole2 rb mb w w := ⟨rfl, rfl, rfl, Nat.le_refl _, fun _ _ _ _ => rfl⟩
theorem Sole2.trans (h : Sole2 rb mb w w') (k : Sole2 rb mb w' w'') : Sole2 rb mb w w'' :=
  ⟨k.os.trans h.os, k.tape.trans h.tape, k.output.trans h.output, Nat.le_trans h.size k.size, fun j hj hr hm => (k.block j (Nat.lt_of_lt_of_le hj h.size) hr hm).trans (h.block j hj hr hm)⟩
theorem Sole2.drewN (h : Sole2 rb mb w w') (n : Nat) : Sole2 rb mb w (w'.drewN n) := ⟨h.os, h.tape, h.output, h.size, h.block⟩
theorem Sole2.drew (h : Sole2 rb mb w w') : Sole2 rb mb w w'.drew := ⟨h.os, h.tape, h.output, h.size, h.block⟩
theorem Sole2.of_below (h : Below w.heap.size w w') : Sole2 rb mb w w' := (Sole.of_below h).two
theorem Sole2.alloc (h : Sole2 rb mb w w') (o : Obj) : Sole2 rb mb w (w'.alloc o) := h.trans (Sole.alloc (.refl _ _) o).two
theorem Sole2.set (h : Sole2 rb mb w w') (i : Nat) (u : Value) : Sole2 rb mb w (w'.setCell ⟨rb, i, none⟩ u) := h.trans (Sole.set (.refl _ _) i u).two
theorem Sole2.setNew (h : Sole2 rb mb w w') {g : Nat} (hg : w.heap.size ≤ g) (i : Nat) (u : Value) : Sole2 rb mb w (w'.setCell ⟨g, i, none⟩ u) :=
  ⟨h.os, h.tape, h.output, by simpa [World.setCell] using h.size, fun k hk hr hm => (Below.heap_setCell _ _ _ _ (by show k ≠ g; omega)).trans (h.block k hk hr hm)⟩
theorem Sole2.grow (h : w.grownBy w' (some mb)) : Sole2 rb mb w w' := ⟨h.os, h.tape, h.output, h.size, fun k hk _ hm => h.block k hk (by simpa using hm)⟩
theorem Sole2.blk {g : Nat} {t : TypeId} {cs : Array Value} (h : Sole2 rb mb w w') (hb : Blk w g t cs) (hr : g ≠ rb) (hm : g ≠ mb) : Blk w' g t cs := (h.block g hb.lt hr hm).trans hb
theorem Sole2.one (h : Sole2 rb mb w w') (hm : w.heap.size ≤ mb) : Sole rb w w' := ⟨h.os, h.tape, h.output, h.size, fun k hk hr => h.block k hk hr (by omega)⟩
end

end Go.Proofs.YtlhinefalkfjaaaGreatDoor

namespace Go.Proofs.YtlhinefalkfjaaaGreatDoor
open Go.RowKit Js
theorem Blk.nine {w : World} {g : Nat} {t : TypeId} {c0 c1 c2 c3 c4 c5 c6 c7 c8 : Value} (h : Blk w g t #[c0, c1, c2, c3, c4, c5, c6, c7, c8]) :
    w.cell? ⟨g, 0, none⟩ = some c0 ∧ w.cell? ⟨g, 1, none⟩ = some c1 ∧ w.cell? ⟨g, 2, none⟩ = some c2 ∧ w.cell? ⟨g, 3, none⟩ = some c3 ∧ w.cell? ⟨g, 4, none⟩ = some c4 ∧ w.cell? ⟨g, 5, none⟩ = some c5 ∧ w.cell? ⟨g, 6, none⟩ = some c6 ∧ w.cell? ⟨g, 7, none⟩ = some c7 ∧ w.cell? ⟨g, 8, none⟩ = some c8 :=
  ⟨h.cell 0, h.cell 1, h.cell 2, h.cell 3, h.cell 4, h.cell 5, h.cell 6, h.cell 7, h.cell 8⟩
theorem RowM.more {w w1 w3 : World} {rb mb B : Nat} {A : Option Addr} {cp : Nat} {acc : List Js.Mem} (hB : B ≤ w.heap.size) (hr : rb < B) (hmb : mb < B) (hS : Sole2 rb mb w w1) {key : List UInt8} {v : Vl} {cs : Array Value} (hv : v.In (w1.on (w.heap.size ≤ ·)) (.agg cs)) (hc1 : ∀ u ∈ cs.toList, u.oneCell' = true)
    {flat : List Value} (hown : w.ownsRow B 88 9 (.slice A acc.length cp) acc.length flat) (hone : ∀ u ∈ flat, u.oneCell' = true) (hel : ∀ i p, acc[i]? = some p → flat[i * 9]? = some (.string ⟨p.1.toArray⟩) ∧ ∃ x, p.2.In (w.on (Off B A)) x ∧ ∀ (j : Nat) u, x.cells[j]? = some u → flat[i * 9 + 1 + j]? = some u)
    {T : TypeId} {os : Array Value} {g cap : Nat} (h3 : w3.ownsRow B 88 9 (.slice (some ⟨g, 0, none⟩) (acc.length + 1) cap) (acc.length + 1) (flat ++ (.string ⟨key.toArray⟩ :: cs.toList))) (hg : (w1.alloc (.cells os T)).grownBy w3 (Value.slice A acc.length cp).ownBlock)
    (hat : (Value.slice A acc.length cp).ownBlock = some g ∨ g = (w1.alloc (.cells os T)).heap.size) : RowM w3 B (some ⟨g, 0, none⟩) cap (acc ++ [(key, v)]) := by
  have hl := own_le hown
  have hA : ∀ k, (∀ ad, A = some ad → k ≠ ad.block) ↔ some k ≠ (Value.slice A acc.length cp).ownBlock := by
    intro k
    cases A with
    | none => simp [Value.ownBlock]
    | some ad => simp [Value.ownBlock]
  have hsz : (w1.alloc (.cells os T)).heap.size = w1.heap.size + 1 := by simp
  have hcell : ∀ p u, B ≤ p.block → (∀ ad, A = some ad → p.block ≠ ad.block) → w1.cell? p = some u → w3.cell? p = some u ∧ p.block ≠ g := by
    intro p u hp hpa hc
    have hlt := World.block_lt_of_cell? w1 _ hc
    refine ⟨?_, ?_⟩
    · rw [hg.cell_far p (by rw [hsz]; omega) ((hA _).1 hpa), World.cell?_alloc_lt _ _ _ hlt]; exact hc
    · rcases hat with h | h
      · intro e; exact (hA _).1 hpa (by rw [h, e])
      · omega
  have hfl : flat.length = acc.length * 9 := hown.1
  refine ⟨flat ++ (.string ⟨key.toArray⟩ :: cs.toList), ?_, ?_, fun i u hi => ?_⟩
  · rw [List.length_append, List.length_singleton]; exact h3
  · intro u hu
    rcases List.mem_append.1 hu with hu | hu
    · exact hone u hu
    · rcases List.mem_cons.1 hu with rfl | hu
      · rfl
      · exact hc1 u hu
  · by_cases hlt : i < acc.length
    · rw [List.getElem?_append_left hlt] at hi
      obtain ⟨hk, x, hx, hc⟩ := hel i u hi
      refine ⟨?_, x, In.keep (fun p y hp => ?_) _ _ hx, fun j y hy => ?_⟩
      · rw [List.getElem?_append_left (List.getElem?_eq_some_iff.1 hk).1]; exact hk
      · obtain ⟨⟨hs1, hs2⟩, hpc⟩ := on_some.1 hp
        have hlt' := World.block_lt_of_cell? w _ hpc
        have hpc1 : w1.cell? p = some y := by rw [World.cell?_of_block (w := w) (hS.block _ hlt' (by omega) (by omega))]; exact hpc
        obtain ⟨k1, k2⟩ := hcell p y hs1 hs2 hpc1
        exact on_some.2 ⟨⟨hs1, fun ad e => by cases e; exact k2⟩, k1⟩
      · have := hc j y hy
        rw [List.getElem?_append_left (List.getElem?_eq_some_iff.1 this).1]
        exact this
    · obtain rfl : i = acc.length := by
        have := (List.getElem?_eq_some_iff.1 hi).1
        rw [List.length_append, List.length_singleton] at this; omega
      rw [List.getElem?_append_right (Nat.le_refl _)] at hi
      simp at hi
      subst hi
      refine ⟨?_, .agg cs, In.keep (fun p y hp => ?_) _ _ hv, fun j y hy => ?_⟩
      · rw [List.getElem?_append_right (by omega), hfl, Nat.sub_self]; rfl
      · obtain ⟨hs1, hpc⟩ := on_some.1 hp
        have hAl : ∀ ad, A = some ad → ad.block < w.heap.size := fun ad e => by
          obtain ⟨g', rfl, _, h⟩ := hl.2.2.2 ad e; exact h
        obtain ⟨k1, k2⟩ := hcell p y (by omega) (fun ad e => by have := hAl ad e; omega) hpc
        exact on_some.2 ⟨⟨by omega, fun ad e => by cases e; exact k2⟩, k1⟩
      · rw [List.getElem?_append_right (by omega), hfl, show acc.length * 9 + 1 + j - acc.length * 9 = j + 1 by omega, List.getElem?_cons_succ]
        simpa [Value.cells] using hy

end Go.Proofs.YtlhinefalkfjaaaGreatDoor


