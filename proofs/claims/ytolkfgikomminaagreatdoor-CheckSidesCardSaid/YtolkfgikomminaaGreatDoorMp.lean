/- Mp: Qa Mp, in one text. -/
import Derived.Test.YtolkfgikomminaaGreatDoorMg
import Derived.Test.YtolkfgikomminaaGreatDoorMc
import Derived.Test.YtolkfgikomminaaGreatDoorMo
import Derived.Test.YtolkfgikomminaaGreatDoorSf
import Derived.Test.YtolkfgikomminaaGreatDoorTg
import Derived.Deep.LoopGhost
import Derived.Deep.RegionHeld3
namespace Go.Proofs.YtolkfgikomminaaGreatDoor
open Go.RowKit Js

structure Sole (rb : Nat) (w w' : World) : Prop where
 os : w'.os = w.os
 tape : w'.tape = w.tape
 output : w'.output = w.output
 size : w.heap.size ≤ w'.heap.size
 block : ∀ k, k < w.heap.size → k ≠ rb → w'.heap[k]? = w.heap[k]?

section
variable {rb : Nat} {w w' w'' : World}
theorem Sole.refl (rb : Nat) (w : World) : Sole rb w w := ⟨rfl, rfl, rfl, Nat.le_refl _, fun _ _ _ => rfl⟩
theorem Sole.trans (h : Sole rb w w') (k : Sole rb w' w'') : Sole rb w w'' :=
 ⟨k.os.trans h.os, k.tape.trans h.tape, k.output.trans h.output, Nat.le_trans h.size k.size, fun i hi hr => (k.block i (Nat.lt_of_lt_of_le hi h.size) hr).trans (h.block i hi hr)⟩
theorem Sole.of_below (h : Below w.heap.size w w') : Sole rb w w' := ⟨h.os, h.tape, h.output, h.size, fun k hk _ => h.block k hk⟩
theorem Sole.drewN (h : Sole rb w w') (n : Nat) : Sole rb w (w'.drewN n) := ⟨h.os, h.tape, h.output, h.size, h.block⟩
theorem Sole.drew (h : Sole rb w w') : Sole rb w w'.drew := ⟨h.os, h.tape, h.output, h.size, h.block⟩
theorem Sole.alloc (h : Sole rb w w') (o : Obj) : Sole rb w (w'.alloc o) := h.trans (.of_below ((Below.refl _ _).alloc (Nat.le_refl _) _))
theorem Sole.set (h : Sole rb w w') (i : Nat) (u : Value) : Sole rb w (w'.setCell ⟨rb, i, none⟩ u) :=
 h.trans ⟨rfl, rfl, rfl, by simp [World.setCell], fun k _ hr => Below.heap_setCell _ _ _ _ hr⟩
theorem Sole.setNew (h : Sole rb w w') {g : Nat} (hg : w.heap.size ≤ g) (i : Nat) (u : Value) : Sole rb w (w'.setCell ⟨g, i, none⟩ u) :=
 ⟨h.os, h.tape, h.output, by simpa [World.setCell] using h.size, fun k hk hr => by rw [Below.heap_setCell _ _ _ _ (by show k ≠ g; omega)]; exact h.block k hk hr⟩
theorem Sole.below {B : Nat} (h : Sole rb w w') (hB : B ≤ rb) (hs : B ≤ w.heap.size) : Below B w w' := ⟨h.os, h.tape, h.output, h.size, fun k hk => h.block k (by omega) (by omega)⟩
theorem Sole.cell (h : Sole rb w w') {p : Addr} (hp : p.block < w.heap.size) (hr : p.block ≠ rb) : w'.cell? p = w.cell? p := World.cell?_of_block (w := w) (h.block p.block hp hr)
theorem Sole.blk {g : Nat} {t : TypeId} {cs : Array Value} (h : Sole rb w w') (hb : Blk w g t cs) (hr : g ≠ rb) : Blk w' g t cs := (h.block g hb.lt hr).trans hb
theorem Sole.le {B : Nat} (h : Sole rb w w') (hB : rb < B) : Cl.le (w.on (B ≤ ·)) (w'.on (B ≤ ·)) := fun p u hp => by
 obtain ⟨hb, hc⟩ := on_some.1 hp
 exact on_some.2 ⟨hb, by rw [h.cell (World.block_lt_of_cell? w _ hc) (by omega)]; exact hc⟩
end

def Rd (w : World) (rb : Nat) (s : ByteArray) (a : Nat) (t : List UInt8) (d : Nat) : Prop :=
 Blk w rb 57 #[.string s, .int .i64 a, .int .i64 d, .int .i64 0, .int .i64 0] ∧ a + t.length = s.size ∧ s.data.toList.drop a = t
def RdB (w : World) (rb : Nat) (s : ByteArray) (c l : Nat) : Prop :=
 ∃ (a d : Int) (p : Nat), Blk w rb 57 #[.string s, .int .i64 a, .int .i64 d, .int .i64 c, .int .i64 p] ∧ p + l = s.size ∧ 1 ≤ c

theorem Blk.five {w : World} {g : Nat} {t : TypeId} {c0 c1 c2 c3 c4 : Value} (h : Blk w g t #[c0, c1, c2, c3, c4]) :
  w.cell? ⟨g, 0, none⟩ = some c0 ∧ w.cell? ⟨g, 1, none⟩ = some c1 ∧ w.cell? ⟨g, 2, none⟩ = some c2 ∧ w.cell? ⟨g, 3, none⟩ = some c3 ∧ w.cell? ⟨g, 4, none⟩ = some c4 :=
 ⟨h.cell 0, h.cell 1, h.cell 2, h.cell 3, h.cell 4⟩

theorem Rd.drewN {w : World} {rb : Nat} {s : ByteArray} {a : Nat} {t : List UInt8} {d : Nat} (h : Rd w rb s a t d) (n : Nat) : Rd (w.drewN n) rb s a t d := h
theorem RdB.drewN {w : World} {rb : Nat} {s : ByteArray} {c l : Nat} (h : RdB w rb s c l) (n : Nat) : RdB (w.drewN n) rb s c l := h
theorem Rd.lt {w : World} {rb : Nat} {s : ByteArray} {a : Nat} {t : List UInt8} {d : Nat} (h : Rd w rb s a t d) : rb < w.heap.size := h.1.lt
theorem Rd.step {w : World} {rb : Nat} {s : ByteArray} {a : Nat} {c : UInt8} {u : List UInt8} {d : Nat} (h : Rd w rb s a (c :: u) d) : Rd (w.setCell ⟨rb, 1, none⟩ (.int .i64 ((a : Int) + 1))) rb s (a + 1) u d := by
 obtain ⟨h0, h1, h2⟩ := h
 refine ⟨?_, by simp only [List.length_cons] at h1; omega, by rw [← List.drop_drop, h2]; rfl⟩
 have := Blk.setL (l := [.string s, .int .i64 a, .int .i64 d, .int .i64 0, .int .i64 0]) h0 1 (.int .i64 ((a : Int) + 1))
 rw [show ((a : Int) + 1) = ((a + 1 : Nat) : Int) by omega] at this ⊢
 exact this
theorem Rd.goTo {w : World} {rb : Nat} {s : ByteArray} {a : Nat} {t : List UInt8} {d : Nat} (h : Rd w rb s a t d) {a' : Nat} {t' : List UInt8} {x : Int} (hx : x = (a' : Int)) (h1 : a' + t'.length = s.size) (h2 : s.data.toList.drop a' = t') : Rd (w.setCell ⟨rb, 1, none⟩ (.int .i64 x)) rb s a' t' d := by
 subst hx
 exact ⟨Blk.setL (l := [.string s, .int .i64 a, .int .i64 d, .int .i64 0, .int .i64 0]) h.1 1 (.int .i64 a'), h1, h2⟩
theorem Rd.on {w w' : World} {rb : Nat} {s : ByteArray} {a : Nat} {t : List UInt8} {d : Nat} (h : Rd w rb s a t d) (hb : Below w.heap.size w w') : Rd w' rb s a t d := ⟨h.1.on hb, h.2.1, h.2.2⟩
theorem RdB.on {w w' : World} {rb : Nat} {s : ByteArray} {c l : Nat} (h : RdB w rb s c l) (hb : Below w.heap.size w w') : RdB w' rb s c l := by
 obtain ⟨a, d, p, h0, h1, h2⟩ := h
 exact ⟨a, d, p, h0.on hb, h1, h2⟩
theorem RdB.setAt {w : World} {rb : Nat} {s : ByteArray} {c l : Nat} (h : RdB w rb s c l) (x : Int) : RdB (w.setCell ⟨rb, 1, none⟩ (.int .i64 x)) rb s c l := by
 obtain ⟨a, d, p, h0, h1, h2⟩ := h
 exact ⟨x, d, p, Blk.setL (l := [.string s, .int .i64 a, .int .i64 d, .int .i64 c, .int .i64 p]) h0 1 (.int .i64 x), h1, h2⟩
theorem RdB.setDeep {w : World} {rb : Nat} {s : ByteArray} {c l : Nat} (h : RdB w rb s c l) (x : Int) : RdB (w.setCell ⟨rb, 2, none⟩ (.int .i64 x)) rb s c l := by
 obtain ⟨a, d, p, h0, h1, h2⟩ := h
 exact ⟨a, x, p, Blk.setL (l := [.string s, .int .i64 a, .int .i64 d, .int .i64 c, .int .i64 p]) h0 2 (.int .i64 x), h1, h2⟩
theorem Rd.setDeep {w : World} {rb : Nat} {s : ByteArray} {a : Nat} {t : List UInt8} {d : Nat} (h : Rd w rb s a t d) (d' : Nat) : Rd (w.setCell ⟨rb, 2, none⟩ (.int .i64 d')) rb s a t d' :=
 ⟨Blk.setL (l := [.string s, .int .i64 a, .int .i64 d, .int .i64 0, .int .i64 0]) h.1 2 (.int .i64 d'), h.2.1, h.2.2⟩

def hd : List UInt8 → Int
 | [] => -1
 | c :: _ => c.toNat

set_option maxRecDepth 100000 in
set_option maxHeartbeats 1000000 in
theorem fail_ok {rb : Nat} {s : ByteArray} {a : Nat} {t : List UInt8} {d : Nat} {w : World} (h : Rd w rb s a t d) (p c l : Nat) (hp : p + l = s.size) (hc : 1 ≤ c) :
  Calls Tryz.prog 20 #[.pointer (some ⟨rb, 0, none⟩), .int .i64 p, .int .i64 c] w fun e w' => e = .returned (.tuple #[]) ∧ RdB w' rb s c l ∧ Sole rb w w' := by
 obtain ⟨hb, h1, h2⟩ := h
 obtain ⟨c0, c1, c2, c3, c4⟩ := hb.five
 have hf := hb.frozen
 have H := Lib.hid (show RdB ((w.setCell ⟨rb, 3, none⟩ (.int .i64 c)).setCell ⟨rb, 4, none⟩ (.int .i64 p)) rb s c l from ⟨a, d, p, by
  have h3 := Blk.setL (l := [.string s, .int .i64 a, .int .i64 d, .int .i64 0, .int .i64 0]) hb 3 (.int .i64 c)
  exact Blk.setL (l := [.string s, .int .i64 a, .int .i64 d, .int .i64 c, .int .i64 0]) h3 4 (.int .i64 p), hp, hc⟩)
 have HS := Lib.hid (((Sole.refl rb w).set 3 (.int .i64 c)).set 4 (.int .i64 p))
 clear hb h1 h2
 go_enter Tryz.func20, Tryz.ntmps20
 go_wp2
 go_end0
 exact ⟨rfl, H.out, HS.out⟩

set_option maxRecDepth 100000 in
set_option maxHeartbeats 1000000 in
theorem fail_bad {rb : Nat} {s : ByteArray} {c l : Nat} {w : World} (h : RdB w rb s c l) (p k : Int) :
  Calls Tryz.prog 20 #[.pointer (some ⟨rb, 0, none⟩), .int .i64 p, .int .i64 k] w fun e w' => e = .returned (.tuple #[]) ∧ w = w' := by
 obtain ⟨a, d, q, hb, h1, h2⟩ := h
 obtain ⟨c0, c1, c2, c3, c4⟩ := hb.five
 have t1 : ((c : Int) == 0) = false := by simp; omega
 clear hb h1 h2
 go_enter Tryz.func20, Tryz.ntmps20
 go_wp2
 go_end0
 exact ⟨rfl, rfl⟩

set_option maxRecDepth 100000 in
set_option maxHeartbeats 1000000 in
theorem peek_bad {rb : Nat} {s : ByteArray} {c l : Nat} {w : World} (h : RdB w rb s c l) :
  Calls Tryz.prog 41 #[.pointer (some ⟨rb, 0, none⟩)] w fun e w' => e = .returned (.int .i64 (-1)) ∧ ∃ n, w' = w.drewN n := by
 obtain ⟨a, d, q, hb, h1, h2⟩ := h
 obtain ⟨c0, c1, c2, c3, c4⟩ := hb.five
 have t1 : ((c : Int) == 0) = false := by simp; omega
 have t2 : ((c : Int) != 0) = true := by simp; omega
 clear hb h1 h2
 go_enter Tryz.func41, Tryz.ntmps41
 go_wp2_with fail
 go_quiet (fail)
 go_wp2
 go_ret
 exact ⟨rfl, _, rfl⟩

set_option maxRecDepth 100000 in
set_option maxHeartbeats 2000000 in
theorem peek_ok {rb : Nat} {s : ByteArray} {a : Nat} {t : List UInt8} {d : Nat} {w : World} (h : Rd w rb s a t d) (_hs : s.size ≤ 1000000000000) :
  Calls Tryz.prog 41 #[.pointer (some ⟨rb, 0, none⟩)] w fun e w' => e = .returned (.int .i64 (hd t)) ∧ ∃ n, w' = w.drewN n := by
 obtain ⟨hb, h1, h2⟩ := h
 obtain ⟨c0, c1, c2, c3, c4⟩ := hb.five
 clear hb
 cases t with
 | nil =>
  have t3 : decide (s.size ≤ a) = true := by simp at h1 ⊢; omega
  clear h2
  go_enter Tryz.func41, Tryz.ntmps41
  go_wp2_with fail
  go_quiet (fail)
  go_wp2
  go_ret
  exact ⟨rfl, _, rfl⟩
 | cons c u =>
  simp only [List.length_cons] at h1
  have hlt : a < s.size := by omega
  have t3 : decide (s.size ≤ a) = false := by simp; omega
  have hix : ∀ h, s[a]'h = c := fun h => by
   have : s.data.toList[a]? = some c := by
    have e : (s.data.toList.drop a)[0]? = some c := by rw [h2]; rfl
    rw [List.getElem?_drop] at e
    simpa using e
   obtain ⟨_, e⟩ := List.getElem?_eq_some_iff.1 this
   exact e
  have hc256 := c.toNat_lt
  have hwr : wrap64 (c.toNat : Int) = c.toNat := by unfold wrap64; omega
  clear h2
  go_enter Tryz.func41, Tryz.ntmps41
  go_wp2_with fail
  go_quiet (fail)
  go_wp2
  rename Nat => n1
  go_quiet (fail)
  go_wp2
  go_ret
  exact ⟨rfl, _, World.drewN_drewN _ _ _⟩

end Go.Proofs.YtolkfgikomminaaGreatDoor

namespace Go.Proofs.YtolkfgikomminaaGreatDoor
open Go.RowKit Js

set_option maxRecDepth 100000 in
set_option maxHeartbeats 1000000 in
theorem blank_bad {rb : Nat} {s : ByteArray} {c l : Nat} {w : World} (h : RdB w rb s c l) :
  Calls Tryz.prog 40 #[.pointer (some ⟨rb, 0, none⟩)] w fun e w' => e = .returned (.tuple #[]) ∧ ∃ n, w' = w.drewN n := by
 have H := Lib.hid h
 clear h
 go_enter Tryz.func40, Tryz.ntmps40
 go_wp2_with fail
 go_loopg [] 1 (fun k wr => k = 1 ∧ wr = w)
 case atStart => exact ⟨rfl, rfl⟩
 case round =>
  obtain ⟨rfl, rfl⟩ := hrel
  go_wp2_with fail
  refine (peek_bad H.out).mono ?_
  rintro e w1 ⟨rfl, n1, rfl⟩
  go_wp2_with fail
  refine (peek_bad (H.out.drewN _)).mono ?_
  rintro e w1 ⟨rfl, n2, rfl⟩
  go_wp2_with fail
  refine (peek_bad (H.out.drewN _)).mono ?_
  rintro e w1 ⟨rfl, n3, rfl⟩
  go_wp2_with fail
  refine (peek_bad (H.out.drewN _)).mono ?_
  rintro e w1 ⟨rfl, n4, rfl⟩
  go_wp2_with fail
  go_end0
  exact ⟨rfl, _, rfl⟩

def Blanked (rb : Nat) (s : ByteArray) (t : List UInt8) (d : Nat) (w : World) (e : Ending) (w' : World) : Prop :=
 e = .returned (.tuple #[]) ∧ (∃ a, Rd w' rb s a (Ps.skip t) d) ∧ Sole rb w w'
def Blanking (rb : Nat) (s : ByteArray) (t : List UInt8) (d : Nat) (w : World) (k : Nat) (wr : World) : Prop :=
 ∃ a u, Rd wr rb s a u d ∧ u.length = k ∧ Ps.skip u = Ps.skip t ∧ Sole rb w wr

set_option maxRecDepth 100000 in
set_option maxHeartbeats 4000000 in
theorem blank_ok {rb : Nat} {s : ByteArray} {a : Nat} {t : List UInt8} {d : Nat} {w : World} (h : Rd w rb s a t d) (hs : s.size ≤ 1000000000000) :
  Calls Tryz.prog 40 #[.pointer (some ⟨rb, 0, none⟩)] w (Blanked rb s t d w) := by
 have H := Lib.hid h
 clear h
 go_enter Tryz.func40, Tryz.ntmps40
 go_wp2_with fail
 go_loopg [] t.length (Blanking rb s t d w)
 case atStart => exact ⟨a, t, H.out, rfl, rfl, .refl _ _⟩
 case round =>
  obtain ⟨a1, u, hR, hk, hsk, hW⟩ := hrel
  have HR := Lib.hid hR
  have HK := Lib.hid hk
  have HSK := Lib.hid hsk
  have HW := Lib.hid hW
  clear hR hk hsk hW
  cases u with
  | nil =>
   have HP := Lib.hid (fun n => peek_ok (HR.out.drewN n) hs)
   have HP0 := Lib.hid (peek_ok HR.out hs)
   simp only [hd] at HP HP0
   go_wp2_with fail
   refine HP0.out.mono ?_
   rintro e w1 ⟨rfl, n1, rfl⟩
   go_wp2_with fail
   refine (HP.out _).mono ?_
   rintro e w1 ⟨rfl, n2, rfl⟩
   go_wp2_with fail
   refine (HP.out _).mono ?_
   rintro e w1 ⟨rfl, n3, rfl⟩
   go_wp2_with fail
   refine (HP.out _).mono ?_
   rintro e w1 ⟨rfl, n4, rfl⟩
   go_wp2_with fail
   go_end0
   exact ⟨rfl, ⟨a1, by rw [← HSK.out]; exact HR.out⟩, HW.out.drewN _⟩
  | cons c v =>
   simp only [List.length_cons] at HK
   have HP := Lib.hid (fun n => peek_ok (HR.out.drewN n) hs)
   have HP0 := Lib.hid (peek_ok HR.out hs)
   simp only [hd] at HP HP0
   have ha1 : a1 + (v.length + 1) = s.size := by have := HR.out.2.1; simpa using this
   obtain ⟨c0, c1, c2, c3, c4⟩ := HR.out.1.five
   have hf := HR.out.1.frozen
   have HSTEP := Lib.hid (fun n => (HR.out.drewN n).step)
   by_cases hb : Ps.blank c = true
   ·have HSK2 := Lib.hid (show Ps.skip v = Ps.skip t from by rw [← HSK.out, Ps.skip_cons, if_pos hb])
    have hways : c = 32 ∨ c = 9 ∨ c = 10 ∨ c = 13 := by
     simpa [Ps.blank, or_assoc] using hb
    clear hb
    rcases hways with rfl | rfl | rfl | rfl
    ·go_wp2_with fail
     refine HP0.out.mono ?_
     rintro e w1 ⟨rfl, n1, rfl⟩
     go_wp2_with fail
     go_roundg v.length
     case rel => exact ⟨a1 + 1, v, HSTEP.out _, rfl, HSK2.out, (HW.out.drewN _).set _ _⟩
     case measure => have := HK.out; omega
    ·go_wp2_with fail
     refine HP0.out.mono ?_
     rintro e w1 ⟨rfl, n1, rfl⟩
     go_wp2_with fail
     refine (HP.out _).mono ?_
     rintro e w1 ⟨rfl, n2, rfl⟩
     go_wp2_with fail
     go_roundg v.length
     case rel => exact ⟨a1 + 1, v, HSTEP.out _, rfl, HSK2.out, (HW.out.drewN _).set _ _⟩
     case measure => have := HK.out; omega
    ·go_wp2_with fail
     refine HP0.out.mono ?_
     rintro e w1 ⟨rfl, n1, rfl⟩
     go_wp2_with fail
     refine (HP.out _).mono ?_
     rintro e w1 ⟨rfl, n2, rfl⟩
     go_wp2_with fail
     refine (HP.out _).mono ?_
     rintro e w1 ⟨rfl, n3, rfl⟩
     go_wp2_with fail
     go_roundg v.length
     case rel => exact ⟨a1 + 1, v, HSTEP.out _, rfl, HSK2.out, (HW.out.drewN _).set _ _⟩
     case measure => have := HK.out; omega
    ·go_wp2_with fail
     refine HP0.out.mono ?_
     rintro e w1 ⟨rfl, n1, rfl⟩
     go_wp2_with fail
     refine (HP.out _).mono ?_
     rintro e w1 ⟨rfl, n2, rfl⟩
     go_wp2_with fail
     refine (HP.out _).mono ?_
     rintro e w1 ⟨rfl, n3, rfl⟩
     go_wp2_with fail
     refine (HP.out _).mono ?_
     rintro e w1 ⟨rfl, n4, rfl⟩
     go_wp2_with fail
     go_roundg v.length
     case rel => exact ⟨a1 + 1, v, HSTEP.out _, rfl, HSK2.out, (HW.out.drewN _).set _ _⟩
     case measure => have := HK.out; omega
   ·have HSK2 := Lib.hid (show Ps.skip t = c :: v from by rw [← HSK.out, Ps.skip_cons, if_neg hb])
    have hn : ¬ c = 32 ∧ ¬ c = 9 ∧ ¬ c = 10 ∧ ¬ c = 13 := by
     simpa [Ps.blank, and_assoc] using hb
    have t1 : ((c.toNat : Int) == 32) = false := byte_neb 32 hn.1
    have t2 : ((c.toNat : Int) == 9) = false := byte_neb 9 hn.2.1
    have t3 : ((c.toNat : Int) == 10) = false := byte_neb 10 hn.2.2.1
    have t4 : ((c.toNat : Int) == 13) = false := byte_neb 13 hn.2.2.2
    clear hb hn
    go_wp2_with fail
    refine HP0.out.mono ?_
    rintro e w1 ⟨rfl, n1, rfl⟩
    go_wp2_with fail
    refine (HP.out _).mono ?_
    rintro e w1 ⟨rfl, n2, rfl⟩
    go_wp2_with fail
    refine (HP.out _).mono ?_
    rintro e w1 ⟨rfl, n3, rfl⟩
    go_wp2_with fail
    refine (HP.out _).mono ?_
    rintro e w1 ⟨rfl, n4, rfl⟩
    go_wp2_with fail
    go_end0
    exact ⟨rfl, ⟨a1, by rw [HSK2.out]; exact HR.out⟩, HW.out.drewN _⟩

end Go.Proofs.YtolkfgikomminaaGreatDoor

namespace Go.Proofs.YtolkfgikomminaaGreatDoor
open Go.RowKit Js

def After {α : Type} (rb : Nat) (s : ByteArray) (d : Nat) (w' : World) : Ps.R α → Prop
 | .ok _ u => ∃ a, Rd w' rb s a u d
 | .bad c l => RdB w' rb s c l

theorem After.drewN {α : Type} {rb : Nat} {s : ByteArray} {d : Nat} {w' : World} {r : Ps.R α} (h : After rb s d w' r) (n : Nat) : After rb s d (w'.drewN n) r := by
 cases r with
 | ok v u => exact h
 | bad c l => exact h

set_option maxRecDepth 100000 in
set_option maxHeartbeats 1000000 in
theorem want_bad {rb : Nat} {s : ByteArray} {c l : Nat} {w : World} (h : RdB w rb s c l) (q : ByteArray) (hq : 0 < q.size) :
  Calls Tryz.prog 45 #[.pointer (some ⟨rb, 0, none⟩), .string q] w fun e w' => e = .returned (.tuple #[]) ∧ w = w' := by
 obtain ⟨a, d, p, hb, h1, h2⟩ := h
 obtain ⟨c0, c1, c2, c3, c4⟩ := hb.five
 have t1 : ((c : Int) == 0) = false := by simp; omega
 clear hb h1 h2
 go_enter Tryz.func45, Tryz.ntmps45
 go_wp2_with fail
 go_loopw [4] (fun i wr => i = .int .i64 0 ∧ wr = w) (fun _ _ => 1)
 case atStart => exact ⟨rfl, rfl⟩
 case round =>
  obtain ⟨rfl, rfl⟩ := hrel
  go_wp2_with fail
  go_end0
  exact ⟨rfl, rfl⟩

def Wanted (rb : Nat) (s : ByteArray) (q t : List UInt8) (d : Nat) (w : World) (e : Ending) (w' : World) : Prop :=
 e = .returned (.tuple #[]) ∧ After rb s d w' (Ps.lit q t) ∧ Sole rb w w'
def Wanting (rb : Nat) (s : ByteArray) (q t : List UInt8) (d : Nat) (w : World) (i : Value) (wr : World) : Prop :=
 ∃ j : Nat, j ≤ q.length ∧ i = .int .i64 j ∧ Sole rb w wr ∧ ((∃ a u, Rd wr rb s a u d ∧ Ps.lit q t = Ps.lit (q.drop j) u) ∨ (∃ l, RdB wr rb s 1 l ∧ Ps.lit q t = .bad 1 l))

set_option maxRecDepth 100000 in
set_option maxHeartbeats 4000000 in
theorem want_ok {rb : Nat} {s : ByteArray} {a : Nat} {t : List UInt8} {d : Nat} {w : World} (h : Rd w rb s a t d) (hs : s.size ≤ 1000000000000) (q : ByteArray) (hq : q.size ≤ 1000) :
  Calls Tryz.prog 45 #[.pointer (some ⟨rb, 0, none⟩), .string q] w (Wanted rb s q.data.toList t d w) := by
 have H := Lib.hid h
 clear h
 have HQL := Lib.hid (show q.data.toList.length = q.size from (Lib.size_eq q).symm)
 go_enter Tryz.func45, Tryz.ntmps45
 go_wp2_with fail
 go_loopw [4] (Wanting rb s q.data.toList t d w) (fun i _ => q.size - (intOf i).toNat)
 case atStart => exact ⟨0, Nat.zero_le _, rfl, .refl _ _, .inl ⟨a, t, H.out, rfl⟩⟩
 case round =>
  obtain ⟨j, hj, rfl, hW, hm⟩ := hrel
  rw [HQL.out] at hj
  have HW := Lib.hid hW
  clear hW
  rcases hm with ⟨a1, u, hR, hl⟩ | ⟨l, hR, hl⟩
  ·have HR := Lib.hid hR
   have HL := Lib.hid hl
   obtain ⟨c0, c1, c2, c3, c4⟩ := hR.1.five
   have hf := hR.1.frozen
   have ha1 := hR.2.1
   have HA1 := Lib.hid ha1
   clear hR hl ha1
   by_cases hlt : j < q.size
   ·have hdr := drop_at q j hlt
    have hix : ∀ h, q[j]'h = q.data.toList[j]'(len_at hlt) := fun _ => rfl
    have HDR := Lib.hid hdr
    clear hdr
    generalize q.data.toList[j]'(len_at hlt) = b at hix HDR
    have hb256 := b.toNat_lt
    have hwr : wrap64 (b.toNat : Int) = b.toNat := by unfold wrap64; omega
    cases u with
    | nil =>
     have HE := Lib.hid (show Ps.lit q.data.toList t = .bad 1 0 by rw [HL.out, HDR.out]; rfl)
     have hne : ((-1 : Int) == (b.toNat : Int)) = false := by rw [beq_eq_false_iff_ne]; omega
     have hne2 : ((-1 : Int) != (b.toNat : Int)) = true := by rw [bne, hne]; rfl
     have HP := Lib.hid (fun n => peek_ok (HR.out.drewN n) hs)
     simp only [hd] at HP
     go_wp2_with fail
     go_quiet ((go_at_call 41; exact Calls.quiet_of (HP.out _)))
     go_wp2_with fail
     refine (fail_ok (HR.out.drewN _) a1 1 0 (by have := HA1.out; simpa using this) (Nat.le_refl _)).mono ?_
     rintro e w2 ⟨rfl, hRB, hS⟩
     have HRB := Lib.hid hRB
     have HS := Lib.hid ((HW.out.drewN _).trans hS)
     clear hRB hS c0 c1 c2 c3 c4 hf
     obtain ⟨a2, d2, p2, hB, -, -⟩ := HRB.out
     obtain ⟨c0, c1, c2, c3, c4⟩ := hB.five
     have hf := hB.frozen
     clear hB
     go_wp2_with fail
     go_roundw
     case rel => exact ⟨j + 1, by rw [HQL.out]; omega, by go_num, HS.out.set _ _, .inr ⟨0, HRB.out.setAt _, HE.out⟩⟩
     case measure => simp [intOf]; omega
    | cons c v =>
     simp only [List.length_cons] at HA1
     have HP := Lib.hid (fun n => peek_ok (HR.out.drewN n) hs)
     simp only [hd] at HP
     have hav : a1 + (v.length + 1) = s.size := HA1.out
     by_cases hcb : c = b
     ·subst hcb
      have HE := Lib.hid (show Ps.lit q.data.toList t = Ps.lit (q.data.toList.drop (j + 1)) v by rw [HL.out, HDR.out]; simp [Ps.lit])
      have hne : ((c.toNat : Int) == (c.toNat : Int)) = true := by simp
      have hne2 : ((c.toNat : Int) != (c.toNat : Int)) = false := by simp
      have HSTEP := Lib.hid (fun n => (HR.out.drewN n).step)
      go_wp2_with fail
      go_quiet ((go_at_call 41; exact Calls.quiet_of (HP.out _)))
      go_wp2_with fail
      go_roundw
      case rel => exact ⟨j + 1, by rw [HQL.out]; omega, by go_num, (HW.out.drewN _).set _ _, .inl ⟨a1 + 1, v, HSTEP.out _, HE.out⟩⟩
      case measure => simp [intOf]; omega
     ·have HE := Lib.hid (show Ps.lit q.data.toList t = .bad 1 (v.length + 1) by rw [HL.out, HDR.out]; simp [Ps.lit, hcb])
      have hne : ((c.toNat : Int) == (b.toNat : Int)) = false := byte_neb b hcb
      have hne2 : ((c.toNat : Int) != (b.toNat : Int)) = true := by rw [bne, hne]; rfl
      clear hcb
      go_wp2_with fail
      go_quiet ((go_at_call 41; exact Calls.quiet_of (HP.out _)))
      go_wp2_with fail
      refine (fail_ok (HR.out.drewN _) a1 1 (v.length + 1) (by have := HA1.out; simpa using this) (Nat.le_refl _)).mono ?_
      rintro e w2 ⟨rfl, hRB, hS⟩
      have HRB := Lib.hid hRB
      have HS := Lib.hid ((HW.out.drewN _).trans hS)
      clear hRB hS c0 c1 c2 c3 c4 hf
      obtain ⟨a2, d2, p2, hB, -, -⟩ := HRB.out
      obtain ⟨c0, c1, c2, c3, c4⟩ := hB.five
      have hf := hB.frozen
      clear hB
      go_wp2_with fail
      go_roundw
      case rel => exact ⟨j + 1, by rw [HQL.out]; omega, by go_num, HS.out.set _ _, .inr ⟨(v.length + 1), HRB.out.setAt _, HE.out⟩⟩
      case measure => simp [intOf]; omega
   ·obtain rfl : j = q.size := by omega
    have HE := Lib.hid (show Ps.lit q.data.toList t = .ok () u by rw [HL.out, List.drop_eq_nil_of_le (by rw [HQL.out]; omega)]; cases u <;> rfl)
    go_wp2_with fail
    go_end0
    exact ⟨rfl, by rw [HE.out]; exact ⟨a1, HR.out⟩, HW.out⟩
  ·have HE := Lib.hid hl
   have HRB := Lib.hid hR
   obtain ⟨a2, d2, p2, hB, -, -⟩ := hR
   obtain ⟨c0, c1, c2, c3, c4⟩ := hB.five
   clear hB hl
   by_cases hlt : j < q.size
   ·go_wp2_with fail
    go_end0
    exact ⟨rfl, by rw [HE.out]; exact HRB.out, HW.out⟩
   ·have hlt' : decide (j < q.size) = false := by simpa using hlt
    go_wp2_with fail
    go_end0
    exact ⟨rfl, by rw [HE.out]; exact HRB.out, HW.out⟩

end Go.Proofs.YtolkfgikomminaaGreatDoor

namespace Go.Proofs.YtolkfgikomminaaGreatDoor
open Go.RowKit Js

def ReadAt (rb : Nat) (s : ByteArray) (a d : Nat) (w w' : World) : Prop :=
 (w'.cell? ⟨rb, 0, none⟩ = some (.string s) ∧ w'.cell? ⟨rb, 1, none⟩ = some (.int .i64 a) ∧ w'.cell? ⟨rb, 2, none⟩ = some (.int .i64 d) ∧ w'.cell? ⟨rb, 3, none⟩ = some (.int .i64 0) ∧ w'.cell? ⟨rb, 4, none⟩ = some (.int .i64 0)) ∧ Below w.heap.size w w'
theorem ReadAt.on {rb : Nat} {s : ByteArray} {a d : Nat} {w W w1 : World} (h : ReadAt rb s a d w W) (hb : Below W.heap.size W w1) : ReadAt rb s a d w w1 := by
 obtain ⟨⟨h0, h1, h2, h3, h4⟩, h5⟩ := h
 have hc : ∀ i v, W.cell? ⟨rb, i, none⟩ = some v → w1.cell? ⟨rb, i, none⟩ = some v := fun i v h => (hb.cell (p := ⟨rb, i, none⟩) (World.block_lt_of_cell? W _ h)).trans h
 exact ⟨⟨hc _ _ h0, hc _ _ h1, hc _ _ h2, hc _ _ h3, hc _ _ h4⟩, h5.trans (hb.mono h5.size)⟩

def Texted (rb : Nat) (s : ByteArray) (t : List UInt8) (d : Nat) (w : World) (e : Ending) (w' : World) : Prop :=
 ∃ o : List UInt8, e = .returned (.string ⟨o.toArray⟩) ∧ (∀ k u, Ps.qtext t = .ok k u → o = k) ∧ After rb s d w' (Ps.qtext t) ∧ Sole rb w w'

set_option maxRecDepth 100000 in
set_option maxHeartbeats 4000000 in
theorem text_ok {rb : Nat} {s : ByteArray} {a : Nat} {t : List UInt8} {d : Nat} {w : World} (h : Rd w rb s a t d) (hs : s.size ≤ 1000000) :
  Calls Tryz.prog 44 #[.pointer (some ⟨rb, 0, none⟩)] w (Texted rb s t d w) := by
 have H := Lib.hid h
 obtain ⟨c0, c1, c2, c3, c4⟩ := h.1.five
 have hu := Ps.qtext_unq s.data.toList a t h.2.2 (by rw [h.2.1]; exact Lib.size_eq s)
 have hal : a + t.length = s.size := h.2.1
 have hal2 : a ≤ s.size := by omega
 have HAL := Lib.hid hal
 have HU := Lib.hid (fun W => refUnquote_any s (a : Int) W hs (by omega) (by omega))
 have hlt := h.lt
 clear h hal
 have ht0 : ReadAt rb s a d w w.drew := ⟨⟨c0, c1, c2, c3, c4⟩, (Below.refl _ _).drew⟩
 have HT0 := Lib.hid ht0
 cases hq : Ps.qtext t with
 | ok k u =>
  rw [hq] at hu
  obtain ⟨n, hun, h1, h2, h3, h4⟩ := hu
  rw [hun] at HU
  have HQ := Lib.hid hq
  have hn : a + n ≤ s.size := by rw [Lib.size_eq]; omega
  have HE := Lib.hid (show a + n + u.length = s.size ∧ s.data.toList.drop (a + n) = u from ⟨by rw [Lib.size_eq]; exact h1, h2⟩)
  clear hun hq h1 h2 h3 h4
  go_enter Tryz.func44, Tryz.ntmps44
  go_wp2_with fail
  go_region_held3 (fun w' => (w'.cell? ⟨rb, 0, none⟩ = some (.string s) ∧ w'.cell? ⟨rb, 1, none⟩ = some (.int .i64 a) ∧ w'.cell? ⟨rb, 2, none⟩ = some (.int .i64 d) ∧ w'.cell? ⟨rb, 3, none⟩ = some (.int .i64 0) ∧ w'.cell? ⟨rb, 4, none⟩ = some (.int .i64 0)) ∧ Below w.heap.size w w')
   ((show ReadAt rb s a d w _; first | (with_reducible exact ht) | (with_reducible exact HT0.out)))
   (first | (go_at_call 71; refine (HU.out _).mono ?_; rintro e w2 ⟨rfl, hb2⟩; have ht := ReadAt.on (rb := rb) (s := s) (a := a) (d := d) (w := w) (by with_reducible first | exact ht | exact HT0.out) hb2; clear hb2))
  have hbl := ht.2
  have HR := Lib.hid (H.out.on hbl)
  have HS := Lib.hid (Sole.of_below (rb := rb) hbl)
  clear ht0 c0 c1 c2 c3 c4
  obtain ⟨⟨c0, c1, c2, c3, c4⟩, _⟩ := ht
  have hf := HR.out.1.frozen
  clear hbl
  go_wp2_with fail
  go_ret
  exact ⟨k, rfl, fun k' u' e => by rw [HQ.out] at e; exact (Ps.R.ok.inj e).1, by rw [HQ.out]; exact ⟨a + n, HR.out.goTo (by omega) HE.out.1 HE.out.2⟩, HS.out.set _ _⟩
 | bad k l =>
  rw [hq] at hu
  obtain ⟨p, hun, h1, h2, h3⟩ := hu
  rw [hun] at HU
  have HQ := Lib.hid hq
  have HE := Lib.hid (show p + l = s.size ∧ 1 ≤ k from ⟨by rw [Lib.size_eq]; exact h2, by omega⟩)
  have hk : ((k : Int) == 0) = false := by simp; omega
  have hk2 : ((k : Int) != 0) = true := by simp; omega
  clear hun hq h1 h2 h3
  go_enter Tryz.func44, Tryz.ntmps44
  go_wp2_with fail
  go_region_held3 (fun w' => (w'.cell? ⟨rb, 0, none⟩ = some (.string s) ∧ w'.cell? ⟨rb, 1, none⟩ = some (.int .i64 a) ∧ w'.cell? ⟨rb, 2, none⟩ = some (.int .i64 d) ∧ w'.cell? ⟨rb, 3, none⟩ = some (.int .i64 0) ∧ w'.cell? ⟨rb, 4, none⟩ = some (.int .i64 0)) ∧ Below w.heap.size w w')
   ((show ReadAt rb s a d w _; first | (with_reducible exact ht) | (with_reducible exact HT0.out)))
   (first | (go_at_call 71; refine (HU.out _).mono ?_; rintro e w2 ⟨rfl, hb2⟩; have ht := ReadAt.on (rb := rb) (s := s) (a := a) (d := d) (w := w) (by with_reducible first | exact ht | exact HT0.out) hb2; clear hb2))
  have hbl := ht.2
  have HR := Lib.hid (H.out.on hbl)
  have HS := Lib.hid (Sole.of_below (rb := rb) hbl)
  clear ht0 c0 c1 c2 c3 c4
  obtain ⟨⟨c0, c1, c2, c3, c4⟩, _⟩ := ht
  clear hbl
  go_wp2_with fail
  refine (fail_ok HR.out p k l HE.out.1 HE.out.2).mono ?_
  rintro e w3 ⟨rfl, hRB, hS⟩
  have HRB := Lib.hid hRB
  have HS3 := Lib.hid (HS.out.trans hS)
  clear hRB hS c0 c1 c2 c3 c4
  obtain ⟨a2, d2, p2, hB, -, -⟩ := HRB.out
  obtain ⟨c0, c1, c2, c3, c4⟩ := hB.five
  have hf := hB.frozen
  clear hB
  go_wp2_with fail
  go_ret
  exact ⟨[], rfl, (fun k' u' e => by rw [HQ.out] at e; cases e), by rw [HQ.out]; exact HRB.out.setAt _, HS3.out.set _ _⟩

def Opened (rb : Nat) (s : ByteArray) (u : List UInt8) (d : Nat) (w : World) (e : Ending) (w' : World) : Prop :=
 e = .returned (.tuple #[]) ∧ (if d = 32 then RdB w' rb s 3 (u.length + 1) else ∃ a, Rd w' rb s a (Ps.skip u) (d + 1)) ∧ Sole rb w w'
theorem Opened.bad {rb : Nat} {s : ByteArray} {u : List UInt8} {d : Nat} {w w' : World} (hd : d = 32) (h : RdB w' rb s 3 (u.length + 1)) (hs : Sole rb w w') : Opened rb s u d w (.returned (.tuple #[])) w' := ⟨rfl, by rw [if_pos hd]; exact h, hs⟩
theorem Opened.ok {rb : Nat} {s : ByteArray} {u : List UInt8} {d a : Nat} {w w' : World} (hd : ¬ d = 32) (h : Rd w' rb s a (Ps.skip u) (d + 1)) (hs : Sole rb w w') : Opened rb s u d w (.returned (.tuple #[])) w' := ⟨rfl, by rw [if_neg hd]; exact ⟨a, h⟩, hs⟩

set_option maxRecDepth 100000 in
set_option maxHeartbeats 4000000 in
theorem open_ok {rb : Nat} {s : ByteArray} {a : Nat} {c : UInt8} {u : List UInt8} {d : Nat} {w : World} (h : Rd w rb s a (c :: u) d) (hs : s.size ≤ 1000000) (hd : d ≤ 32) :
  Calls Tryz.prog 70 #[.pointer (some ⟨rb, 0, none⟩)] w (Opened rb s u d w) := by
 have H := Lib.hid h
 obtain ⟨c0, c1, c2, c3, c4⟩ := h.1.five
 have hf := h.1.frozen
 have hal : a + (u.length + 1) = s.size := by simpa using h.2.1
 have hal2 : a + 1 ≤ s.size := by omega
 clear h
 by_cases h32 : d = 32
 ·subst h32
  have HF := Lib.hid (fail_ok H.out a 3 (u.length + 1) hal (by omega))
  clear hal
  go_enter Tryz.func70, Tryz.ntmps70
  go_wp2_with fail
  refine HF.out.mono ?_
  rintro e w2 ⟨rfl, hRB, hS⟩
  have HRB := Lib.hid hRB
  have HS := Lib.hid hS
  clear hRB hS c0 c1 c2 c3 c4 hf
  obtain ⟨a2, d2, p2, hB, h1, -⟩ := HRB.out
  obtain ⟨c0, c1, c2, c3, c4⟩ := hB.five
  have hf := hB.frozen
  have hlt := hB.lt
  clear hB h1
  have HFIN := Lib.hid (fun x y => (HRB.out.setDeep x).setAt y)
  go_wp2_with fail
  refine (blank_bad (HFIN.out _ _)).mono ?_
  rintro e w3 ⟨rfl, n, rfl⟩
  go_wp2_with fail
  go_end0
  exact Opened.bad rfl (HFIN.out _ _) (((HS.out.set _ _).set _ _).drewN _)
 ·have hd2 : ((d : Int) == 32) = false := by simp; omega
  have HD := Lib.hid h32
  have HFIN := Lib.hid (show Rd ((w.setCell ⟨rb, 2, none⟩ (.int .i64 ((d : Int) + 1))).setCell ⟨rb, 1, none⟩ (.int .i64 ((a : Int) + 1))) rb s (a + 1) u (d + 1) from (H.out.setDeep (d + 1)).step)
  clear h32 hal
  go_enter Tryz.func70, Tryz.ntmps70
  go_wp2_with fail
  refine (blank_ok HFIN.out (by omega)).mono ?_
  rintro e w3 ⟨rfl, ⟨a3, hR⟩, hS⟩
  have HRR := Lib.hid hR
  have HSS := Lib.hid hS
  clear hR hS
  go_wp2_with fail
  go_end0
  exact Opened.ok HD.out HRR.out ((((Sole.refl _ _).set _ _).set _ _).trans HSS.out)

end Go.Proofs.YtolkfgikomminaaGreatDoor


