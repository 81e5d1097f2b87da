/- The walks of the document's Reader, first part: fail, peek. -/
import Derived.Test.YtfolfibembplbaaDoorMg
import Derived.Test.YtfolfibembplbaaDoorMc
import Derived.Test.YtfolfibembplbaaDoorMo
namespace Go.Proofs.YtfolfibembplbaaDoor
open Go.RowKit Js

/-- A call has changed what was there in one block alone. -/
structure Sole (rb : Nat) (w w' : World) : Prop where
  os : w'.os = w.os
  tape : w'.tape = w.tape
  output : w'.output = w.output
  size : w.heap.size ≤ w'.heap.size
  block : ∀ k, k < w.heap.size → k ≠ rb → w'.heap[k]? = w.heap[k]?

section
variable {rb : Nat} {w w' w'' : World}
theorem Sole.refl (rb : Nat) (w : World) : Sole rb w w := ⟨rfl, rfl, rfl, Nat.le_refl _, fun _ _ _ => rfl⟩
theorem Sole.trans (h : Sole rb w w') (k : Sole rb w' w'') : Sole rb w w'' :=
  ⟨k.os.trans h.os, k.tape.trans h.tape, k.output.trans h.output, Nat.le_trans h.size k.size, fun i hi hr => (k.block i (Nat.lt_of_lt_of_le hi h.size) hr).trans (h.block i hi hr)⟩
theorem Sole.of_below (h : Below w.heap.size w w') : Sole rb w w' := ⟨h.os, h.tape, h.output, h.size, fun k hk _ => h.block k hk⟩
theorem Sole.drewN (h : Sole rb w w') (n : Nat) : Sole rb w (w'.drewN n) := ⟨h.os, h.tape, h.output, h.size, h.block⟩
theorem Sole.drew (h : Sole rb w w') : Sole rb w w'.drew := ⟨h.os, h.tape, h.output, h.size, h.block⟩
theorem Sole.alloc (h : Sole rb w w') (o : Obj) : Sole rb w (w'.alloc o) := h.trans (.of_below ((Below.refl _ _).alloc (Nat.le_refl _) _))
theorem Sole.set (h : Sole rb w w') (i : Nat) (u : Value) : Sole rb w (w'.setCell ⟨rb, i, none⟩ u) :=
  h.trans ⟨rfl, rfl, rfl, by simp [World.setCell], fun k _ hr => Below.heap_setCell _ _ _ _ hr⟩
/-- A store into a block that is younger. -/
theorem Sole.setNew (h : Sole rb w w') {g : Nat} (hg : w.heap.size ≤ g) (i : Nat) (u : Value) : Sole rb w (w'.setCell ⟨g, i, none⟩ u) :=
  ⟨h.os, h.tape, h.output, by simpa [World.setCell] using h.size, fun k hk hr => by rw [Below.heap_setCell _ _ _ _ (by show k ≠ g; omega)]; exact h.block k hk hr⟩
theorem Sole.below {B : Nat} (h : Sole rb w w') (hB : B ≤ rb) (hs : B ≤ w.heap.size) : Below B w w' := ⟨h.os, h.tape, h.output, h.size, fun k hk => h.block k (by omega) (by omega)⟩
theorem Sole.cell (h : Sole rb w w') {p : Addr} (hp : p.block < w.heap.size) (hr : p.block ≠ rb) : w'.cell? p = w.cell? p := World.cell?_of_block (w := w) (h.block p.block hp hr)
theorem Sole.blk {g : Nat} {t : TypeId} {cs : Array Value} (h : Sole rb w w') (hb : Blk w g t cs) (hr : g ≠ rb) : Blk w' g t cs := (h.block g hb.lt hr).trans hb
/-- A reading through younger blocks stays. -/
theorem Sole.le {B : Nat} (h : Sole rb w w') (hB : rb < B) : Cl.le (w.on (B ≤ ·)) (w'.on (B ≤ ·)) := fun p u hp => by
  obtain ⟨hb, hc⟩ := on_some.1 hp
  exact on_some.2 ⟨hb, by rw [h.cell (World.block_lt_of_cell? w _ hc) (by omega)]; exact hc⟩
end

/-- The reader: nothing is amiss yet; it is at a place from which on t stands. -/
def Rd (w : World) (rb : Nat) (s : ByteArray) (a : Nat) (t : List UInt8) (d : Nat) : Prop :=
  Blk w rb 50 #[.string s, .int .i64 a, .int .i64 d, .int .i64 0, .int .i64 0] ∧ a + t.length = s.size ∧ s.data.toList.drop a = t
/-- The reader: something is amiss. -/
def RdB (w : World) (rb : Nat) (s : ByteArray) (c l : Nat) : Prop :=
  ∃ (a d : Int) (p : Nat), Blk w rb 50 #[.string s, .int .i64 a, .int .i64 d, .int .i64 c, .int .i64 p] ∧ p + l = s.size ∧ 1 ≤ c

theorem Blk.five {w : World} {g : Nat} {t : TypeId} {c0 c1 c2 c3 c4 : Value} (h : Blk w g t #[c0, c1, c2, c3, c4]) :
    w.cell? ⟨g, 0, none⟩ = some c0 ∧ w.cell? ⟨g, 1, none⟩ = some c1 ∧ w.cell? ⟨g, 2, none⟩ = some c2 ∧ w.cell? ⟨g, 3, none⟩ = some c3 ∧ w.cell? ⟨g, 4, none⟩ = some c4 :=
  ⟨h.cell 0, h.cell 1, h.cell 2, h.cell 3, h.cell 4⟩

theorem Rd.drewN {w : World} {rb : Nat} {s : ByteArray} {a : Nat} {t : List UInt8} {d : Nat} (h : Rd w rb s a t d) (n : Nat) : Rd (w.drewN n) rb s a t d := h
theorem RdB.drewN {w : World} {rb : Nat} {s : ByteArray} {c l : Nat} (h : RdB w rb s c l) (n : Nat) : RdB (w.drewN n) rb s c l := h
theorem Rd.lt {w : World} {rb : Nat} {s : ByteArray} {a : Nat} {t : List UInt8} {d : Nat} (h : Rd w rb s a t d) : rb < w.heap.size := h.1.lt
/-- The reader goes one byte on. -/
theorem Rd.step {w : World} {rb : Nat} {s : ByteArray} {a : Nat} {c : UInt8} {u : List UInt8} {d : Nat} (h : Rd w rb s a (c :: u) d) : Rd (w.setCell ⟨rb, 1, none⟩ (.int .i64 ((a : Int) + 1))) rb s (a + 1) u d := by
  obtain ⟨h0, h1, h2⟩ := h
  refine ⟨?_, by simp only [List.length_cons] at h1; omega, by rw [← List.drop_drop, h2]; rfl⟩
  have := Blk.setL (l := [.string s, .int .i64 a, .int .i64 d, .int .i64 0, .int .i64 0]) h0 1 (.int .i64 ((a : Int) + 1))
  rw [show ((a : Int) + 1) = ((a + 1 : Nat) : Int) by omega] at this ⊢
  exact this
theorem Rd.goTo {w : World} {rb : Nat} {s : ByteArray} {a : Nat} {t : List UInt8} {d : Nat} (h : Rd w rb s a t d) {a' : Nat} {t' : List UInt8} {x : Int} (hx : x = (a' : Int)) (h1 : a' + t'.length = s.size) (h2 : s.data.toList.drop a' = t') : Rd (w.setCell ⟨rb, 1, none⟩ (.int .i64 x)) rb s a' t' d := by
  subst hx
  exact ⟨Blk.setL (l := [.string s, .int .i64 a, .int .i64 d, .int .i64 0, .int .i64 0]) h.1 1 (.int .i64 a'), h1, h2⟩
theorem Rd.on {w w' : World} {rb : Nat} {s : ByteArray} {a : Nat} {t : List UInt8} {d : Nat} (h : Rd w rb s a t d) (hb : Below w.heap.size w w') : Rd w' rb s a t d := ⟨h.1.on hb, h.2.1, h.2.2⟩
theorem RdB.on {w w' : World} {rb : Nat} {s : ByteArray} {c l : Nat} (h : RdB w rb s c l) (hb : Below w.heap.size w w') : RdB w' rb s c l := by
  obtain ⟨a, d, p, h0, h1, h2⟩ := h
  exact ⟨a, d, p, h0.on hb, h1, h2⟩
/-- Wherever the reader is: something is amiss. -/
theorem RdB.setAt {w : World} {rb : Nat} {s : ByteArray} {c l : Nat} (h : RdB w rb s c l) (x : Int) : RdB (w.setCell ⟨rb, 1, none⟩ (.int .i64 x)) rb s c l := by
  obtain ⟨a, d, p, h0, h1, h2⟩ := h
  exact ⟨x, d, p, Blk.setL (l := [.string s, .int .i64 a, .int .i64 d, .int .i64 c, .int .i64 p]) h0 1 (.int .i64 x), h1, h2⟩
theorem RdB.setDeep {w : World} {rb : Nat} {s : ByteArray} {c l : Nat} (h : RdB w rb s c l) (x : Int) : RdB (w.setCell ⟨rb, 2, none⟩ (.int .i64 x)) rb s c l := by
  obtain ⟨a, d, p, h0, h1, h2⟩ := h
  exact ⟨a, x, p, Blk.setL (l := [.string s, .int .i64 a, .int .i64 d, .int .i64 c, .int .i64 p]) h0 2 (.int .i64 x), h1, h2⟩
theorem Rd.setDeep {w : World} {rb : Nat} {s : ByteArray} {a : Nat} {t : List UInt8} {d : Nat} (h : Rd w rb s a t d) (d' : Nat) : Rd (w.setCell ⟨rb, 2, none⟩ (.int .i64 d')) rb s a t d' :=
  ⟨Blk.setL (l := [.string s, .int .i64 a, .int .i64 d, .int .i64 0, .int .i64 0]) h.1 2 (.int .i64 d'), h.2.1, h.2.2⟩

/-- The byte that stands at a place; -1: there is none. -/
def hd : List UInt8 → Int
  | [] => -1
  | c :: _ => c.toNat

set_option maxRecDepth 100000 in
set_option maxHeartbeats 1000000 in
theorem fail_ok {rb : Nat} {s : ByteArray} {a : Nat} {t : List UInt8} {d : Nat} {w : World} (h : Rd w rb s a t d) (p c l : Nat) (hp : p + l = s.size) (hc : 1 ≤ c) :
    Calls Tryd.prog 19 #[.pointer (some ⟨rb, 0, none⟩), .int .i64 p, .int .i64 c] w fun e w' => e = .returned (.tuple #[]) ∧ RdB w' rb s c l ∧ Sole rb w w' := by
  obtain ⟨hb, h1, h2⟩ := h
  obtain ⟨c0, c1, c2, c3, c4⟩ := hb.five
  have hf := hb.frozen
  have H := Lib.hid (show RdB ((w.setCell ⟨rb, 3, none⟩ (.int .i64 c)).setCell ⟨rb, 4, none⟩ (.int .i64 p)) rb s c l from ⟨a, d, p, by
    have h3 := Blk.setL (l := [.string s, .int .i64 a, .int .i64 d, .int .i64 0, .int .i64 0]) hb 3 (.int .i64 c)
    exact Blk.setL (l := [.string s, .int .i64 a, .int .i64 d, .int .i64 c, .int .i64 0]) h3 4 (.int .i64 p), hp, hc⟩)
  have HS := Lib.hid (((Sole.refl rb w).set 3 (.int .i64 c)).set 4 (.int .i64 p))
  clear hb h1 h2
  go_enter Tryd.func19, Tryd.ntmps19
  go_wp2
  go_end0
  exact ⟨rfl, H.out, HS.out⟩

set_option maxRecDepth 100000 in
set_option maxHeartbeats 1000000 in
theorem fail_bad {rb : Nat} {s : ByteArray} {c l : Nat} {w : World} (h : RdB w rb s c l) (p k : Int) :
    Calls Tryd.prog 19 #[.pointer (some ⟨rb, 0, none⟩), .int .i64 p, .int .i64 k] w fun e w' => e = .returned (.tuple #[]) ∧ w = w' := by
  obtain ⟨a, d, q, hb, h1, h2⟩ := h
  obtain ⟨c0, c1, c2, c3, c4⟩ := hb.five
  have t1 : ((c : Int) == 0) = false := by simp; omega
  clear hb h1 h2
  go_enter Tryd.func19, Tryd.ntmps19
  go_wp2
  go_end0
  exact ⟨rfl, rfl⟩

set_option maxRecDepth 100000 in
set_option maxHeartbeats 1000000 in
theorem peek_bad {rb : Nat} {s : ByteArray} {c l : Nat} {w : World} (h : RdB w rb s c l) :
    Calls Tryd.prog 26 #[.pointer (some ⟨rb, 0, none⟩)] w fun e w' => e = .returned (.int .i64 (-1)) ∧ ∃ n, w' = w.drewN n := by
  obtain ⟨a, d, q, hb, h1, h2⟩ := h
  obtain ⟨c0, c1, c2, c3, c4⟩ := hb.five
  have t1 : ((c : Int) == 0) = false := by simp; omega
  have t2 : ((c : Int) != 0) = true := by simp; omega
  clear hb h1 h2
  go_enter Tryd.func26, Tryd.ntmps26
  go_wp2_with fail
  go_quiet (fail)
  go_wp2
  go_ret
  exact ⟨rfl, _, rfl⟩

set_option maxRecDepth 100000 in
set_option maxHeartbeats 2000000 in
theorem peek_ok {rb : Nat} {s : ByteArray} {a : Nat} {t : List UInt8} {d : Nat} {w : World} (h : Rd w rb s a t d) (_hs : s.size ≤ 1000000000000) :
    Calls Tryd.prog 26 #[.pointer (some ⟨rb, 0, none⟩)] w fun e w' => e = .returned (.int .i64 (hd t)) ∧ ∃ n, w' = w.drewN n := by
  obtain ⟨hb, h1, h2⟩ := h
  obtain ⟨c0, c1, c2, c3, c4⟩ := hb.five
  clear hb
  cases t with
  | nil =>
    have t3 : decide (s.size ≤ a) = true := by simp at h1 ⊢; omega
    clear h2
    go_enter Tryd.func26, Tryd.ntmps26
    go_wp2_with fail
    go_quiet (fail)
    go_wp2
    go_ret
    exact ⟨rfl, _, rfl⟩
  | cons c u =>
    simp only [List.length_cons] at h1
    have hlt : a < s.size := by omega
    have t3 : decide (s.size ≤ a) = false := by simp; omega
    have hix : ∀ h, s[a]'h = c := fun h => by
      have : s.data.toList[a]? = some c := by
        have e : (s.data.toList.drop a)[0]? = some c := by rw [h2]; rfl
        rw [List.getElem?_drop] at e
        simpa using e
      obtain ⟨_, e⟩ := List.getElem?_eq_some_iff.1 this
      exact e
    have hc256 := c.toNat_lt
    have hwr : wrap64 (c.toNat : Int) = c.toNat := by unfold wrap64; omega
    clear h2
    go_enter Tryd.func26, Tryd.ntmps26
    go_wp2_with fail
    go_quiet (fail)
    go_wp2
    rename Nat => n1
    go_quiet (fail)
    go_wp2
    go_ret
    exact ⟨rfl, _, World.drewN_drewN _ _ _⟩

end Go.Proofs.YtfolfibembplbaaDoor

