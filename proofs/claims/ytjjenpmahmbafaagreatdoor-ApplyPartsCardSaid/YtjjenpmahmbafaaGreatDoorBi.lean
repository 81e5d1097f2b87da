/- Bi: Bi Bj, in one text. -/
import Derived.Test.YtjjenpmahmbafaaGreatDoorBd
import Derived.Test.YtjjenpmahmbafaaGreatDoorBe
import Derived.Test.YtjjenpmahmbafaaGreatDoorBa
import Derived.Test.YtjjenpmahmbafaaGreatDoorBm
namespace Go.Proofs.YtjjenpmahmbafaaGreatDoor.Ap
open Js Pt Oq Ed
theorem doOp_code {v : Vl} {o : Opn} {c : Nat} (h : doOp v o = .bad c) : 0 < c := by
  unfold doOp at h
  split at h
  · rcases edit_bad _ h with rfl | rfl <;> omega
  · split at h
    · injection h with h; omega
    · cases hg : get v (if o.op = 6 then o.path else o.src) with
      | none => rw [hg] at h; injection h with h; omega
      | some x =>
        rw [hg] at h
        simp only at h
        split at h
        · split at h
          · cases h
          · injection h with h; omega
        · split at h
          · split at h
            · cases h
            · cases he : edit 2 o.src v Ps.mkN with
              | bad d => rw [he] at h; simp only at h; injection h with h; subst h; rcases edit_bad _ he with rfl | rfl <;> omega
              | ok r => rw [he] at h; simp only at h; rcases edit_bad _ h with rfl | rfl <;> omega
          · rcases edit_bad _ h with rfl | rfl <;> omega
theorem done_code {v : Vl} {o : Opn} {c : Nat} (h : done v o = .bad c) : 0 < c := by
  unfold done at h
  cases hd : doOp v o with
  | bad d => rw [hd] at h; simp only at h; injection h with h; subst h; exact doOp_code hd
  | ok u =>
    rw [hd] at h
    simp only at h
    split at h
    · injection h with h; omega
    · split at h
      · injection h with h; omega
      · cases h
theorem apply_code (l : List Opn) : ∀ {v : Vl} {i c j : Nat}, applyAt v l i = .bad c j → 0 < c := by
  induction l with
  | nil => intro v i c j h; cases h
  | cons o l ih =>
    intro v i c j h
    rw [applyAt_cons] at h
    cases hd : done v o with
    | bad d => rw [hd] at h; simp only at h; injection h with h h2; subst h; exact done_code hd
    | ok u => rw [hd] at h; exact ih h
theorem apply_place (l : List Opn) : ∀ {v : Vl} {i c j : Nat}, applyAt v l i = .bad c j → j < i + l.length := by
  induction l with
  | nil => intro v i c j h; cases h
  | cons o l ih =>
    intro v i c j h
    rw [applyAt_cons] at h
    cases hd : done v o with
    | bad d => rw [hd] at h; simp only at h; injection h with h h2; subst h2; simp
    | ok u => rw [hd] at h; have := ih h; rw [List.length_cons]; omega
end Go.Proofs.YtjjenpmahmbafaaGreatDoor.Ap
namespace Go.Proofs.YtjjenpmahmbafaaGreatDoor
open Go.RowKit Pt Js Oq

def Spots9 (B : Nat) (w : World) (ev : Value) (k a : Int) : Prop := (ev = .nilIface ∧ k = 0 ∧ a = 0) ∨ (¬ k = 0 ∧ ∃ b, B ≤ b ∧ ev = spotV b ∧ SpotAt w b a k)
theorem Spots9.spots {B : Nat} {w : World} {ev : Value} {k a : Int} (h : Spots9 B w ev k a) : Spots8 w ev k a := h.imp id (fun ⟨_, b, _, h2, h3⟩ => ⟨b, h2, h3⟩)
theorem Spots9.on {B : Nat} {w w' : World} {ev : Value} {k a : Int} (h : Spots9 B w ev k a) (hb : Below w.heap.size w w') : Spots9 B w' ev k a := by
  rcases h with h | ⟨h0, b, h1, h2, h3, h4⟩
  · exact .inl h
  · exact .inr ⟨h0, b, h1, h2, le_below hb _ _ h3, le_below hb _ _ h4⟩
structure Handed9 (S : Nat → Prop) (v : Vl) (l : List Opn) (xv : Value) (A : Option Addr) (e : Nat) (w : World) : Prop where
  hS : ∀ b, S b → b < w.heap.size
  hv : v.In (w.on S) xv
  hl : SlO (w.on S) A l
  he : l.length ≤ e
  hm : e ≤ maxLen
  val : Ap.ValFit v
  ops : Ap.OpsFit l
  len : l.length ≤ 100
  err : ErrT w
theorem Handed9.of {v : Vl} {l : List Opn} {xv : Value} {A : Option Addr} {e : Nat} {w : World} (hv : v.In w.cell? xv) (hl : SlO w.cell? A l) (he : l.length ≤ e) (hm : e ≤ maxLen) (val : Ap.ValFit v) (ops : Ap.OpsFit l) (len : l.length ≤ 100) (err : ErrT w) : Handed9 (fun b => b < w.heap.size) v l xv A e w :=
  ⟨fun _ h => h, In.keep (le_whole w) _ _ hv, hl.keep (le_whole w), he, hm, val, ops, len, err⟩
def ApplyE (S : Nat → Prop) (r : Ap.Rs) (w : World) (e : Ending) (w' : World) : Prop :=
  ∃ y ev, e = .returned (.tuple #[y, ev]) ∧ r.z.In (w'.on fun b => S b ∨ w.heap.size ≤ b) y ∧ Spots9 w.heap.size w' ev r.c r.i ∧ Below w.heap.size w w'
def ApplyT : Prop := ∀ (S : Nat → Prop) (v : Vl) (l : List Opn) (xv : Value) (A : Option Addr) (e : Nat) (w : World), Handed9 S v l xv A e w → Calls Tryz.prog 8 #[xv, .slice A l.length e] w (ApplyE S (Ap.applyAt v l 0) w)
theorem fine_val {v : Vl} (h : Fine v) : Ap.ValFit v := ⟨Ed.neat_may v h.1, Ap.tame_may v h.1, by have := h.2.1; omega⟩

end Go.Proofs.YtjjenpmahmbafaaGreatDoor

namespace Go.Proofs.YtjjenpmahmbafaaGreatDoor.Ap
open Js Pt Oq
def exV : Vl := Ps.mkO [([97], Ps.mkA [Ps.mkD ⟨false, [49], 0⟩])]
def exW : Vl := Ps.mkO [([98], Ps.mkA [Ps.mkD ⟨false, [49], 0⟩])]
def exP : Vl := Ps.mkA [Ps.mkO [([102, 114, 111, 109], Ps.mkS [47, 97]), ([111, 112], Ps.mkS [109, 111, 118, 101]), ([112, 97, 116, 104], Ps.mkS [47, 98])],
  Ps.mkO [([111, 112], Ps.mkS [116, 101, 115, 116]), ([112, 97, 116, 104], Ps.mkS [47, 98, 47, 48]), ([118, 97, 108, 117, 101], Ps.mkD ⟨false, [50], 0⟩)]]
def exL : List Opn := [⟨4, [[98]], [[97]], Ps.mkN⟩, ⟨6, [[98], [48]], [], Ps.mkD ⟨false, [50], 0⟩⟩]
theorem ex_v : Ps.parse [123, 34, 97, 34, 58, 91, 49, 93, 125] = .ok exV [] := by kernel_rfl
theorem ex_w : Ps.parse [123, 34, 98, 34, 58, 91, 49, 93, 125] = .ok exW [] := by kernel_rfl
theorem ex_p : Ps.parse ([91, 123, 34, 111, 112, 34, 58, 34, 109, 111, 118, 101, 34, 44, 34, 102, 114, 111, 109, 34, 58, 34, 47, 97, 34, 44, 34, 112, 97, 116, 104, 34, 58, 34, 47, 98, 34, 125].append [44, 123, 34, 111, 112, 34, 58, 34, 116, 101, 115, 116, 34, 44, 34, 112, 97, 116, 104, 34, 58, 34, 47, 98, 47, 48, 34, 44, 34, 118, 97, 108, 117, 101, 34, 58, 50, 125, 93]) = .ok exP [] := by kernel_rfl
theorem ex_l : Oq.read exP = .ok exL := by kernel_rfl
theorem ex_bad : applyAt exV exL 0 = .bad 8 1 := by kernel_rfl
theorem ex_ok : applyAt exV (exL.take 1) 0 = .ok exW := by kernel_rfl
theorem ex_val : ValFit exV := ⟨by decide, by decide, by decide⟩
end Go.Proofs.YtjjenpmahmbafaaGreatDoor.Ap
namespace Go.Proofs.YtjjenpmahmbafaaGreatDoor
open Go.RowKit Pt Js Oq

structure Part9 (gV : Nat) (V : Array Value) (wr W : World) : Prop where
  v : Blk W gV 28 V
  since : Below wr.heap.size wr W
  old : gV < wr.heap.size
section
variable {wr w' w'' : World} {V : Array Value} {gV : Nat}
theorem Part9.on (h : Part9 gV V wr w') (hb : Below w'.heap.size w' w'') : Part9 gV V wr w'' := ⟨h.v.on hb, h.since.trans (hb.mono h.since.size), h.old⟩
theorem Part9.drew (h : Part9 gV V wr w') : Part9 gV V wr w'.drew := ⟨h.v, h.since.drew, h.old⟩
theorem Part9.alloc (h : Part9 gV V wr w') (o : Obj) : Part9 gV V wr (w'.alloc o) := h.on ((Below.refl _ _).alloc (Nat.le_refl _) o)
theorem Part9.set8z (h : Part9 gV V wr w') {gZ : Nat} (hz : wr.heap.size ≤ gZ) (v0 v1 v2 v3 v4 v5 v6 v7 : Value) : Part9 gV V wr (set8 w' gZ v0 v1 v2 v3 v4 v5 v6 v7) :=
  ⟨h.v.set8o (by have := h.old; omega) _ _ _ _ _ _ _ _, below_set8 h.since hz _ _ _ _ _ _ _ _, h.old⟩
structure Lone9 (wr : World) (gZ : Nat) (W : World) : Prop where
  blk : Blk W gZ 28 zeroC
  ge : wr.heap.size ≤ gZ
theorem Lone9.new (wr : World) : Lone9 wr wr.heap.size (wr.drew.alloc (.cells zeroC 28)) := ⟨Blk.new wr.drew _ _, Nat.le_refl _⟩
def Spot9 (gZ : Nat) (w : World) (ev : Value) (k a : Int) : Prop := (ev = .nilIface ∧ k = 0 ∧ a = 0) ∨ (¬ k = 0 ∧ ∃ b, b ≠ gZ ∧ ev = spotV b ∧ SpotAt w b a k)
theorem Spot9.spots {g : Nat} {w : World} {ev : Value} {k a : Int} (h : Spot9 g w ev k a) : Spots9 0 w ev k a := h.imp id (fun ⟨h0, b, _, h2, h3⟩ => ⟨h0, b, Nat.zero_le _, h2, h3⟩)
theorem Spots9.spots9 {B : Nat} {w : World} {ev : Value} {k a : Int} (h : Spots9 B w ev k a) : Spots9 0 w ev k a := h.imp id (fun ⟨h0, b, _, h2, h3⟩ => ⟨h0, b, Nat.zero_le _, h2, h3⟩)
structure Got9 (wr : World) (gZ : Nat) (r : Ap.Rs) (y ev : Value) (C : Array Value) (W : World) : Prop where
  blk : Blk W gZ 28 C
  ge : wr.heap.size ≤ gZ
  z : r.z.In (W.on fun b => b ≠ gZ) y
  ev : Spot9 gZ W ev r.c r.i
theorem Got9.new {r : Ap.Rs} {y ev : Value} (h : Below wr.heap.size wr w') (hz : r.z.In w'.cell? y) (hs : Spots9 0 w' ev r.c r.i) : Got9 wr w'.heap.size r y ev zeroC (w'.alloc (.cells zeroC 28)) :=
  ⟨Blk.new _ _ _, h.size, In.keep (on_keep (fun b hb h2 => by omega) (fun b _ h2 => Below.heap_alloc _ _ _ h2)) _ _ (In.keep (le_whole w') _ _ hz), hs.imp id (fun ⟨h0, b, _, h2, h3⟩ =>
    ⟨h0, b, by have := World.block_lt_of_cell? _ _ h3.1; show b ≠ w'.heap.size; simp only at this; omega, h2, le_alloc _ _ _ _ h3.1, le_alloc _ _ _ _ h3.2⟩)⟩
theorem Got9.after {r : Ap.Rs} {y ev : Value} {gZ : Nat} (ha : Lone9 wr gZ w') (hb : Below w'.heap.size w' w'') (hz : r.z.In (w''.on fun b => b < wr.heap.size ∨ w'.heap.size ≤ b) y) (hs : Spots9 w'.heap.size w'' ev r.c r.i) : Got9 wr gZ r y ev zeroC w'' :=
  ⟨ha.blk.on hb, ha.ge, In.keep (on_sub fun b k => by have := ha.ge; have := ha.blk.lt; omega) _ _ hz, hs.imp id (fun ⟨h0, b, h1, h2, h3⟩ => ⟨h0, b, by have := ha.blk.lt; omega, h2, h3⟩)⟩
theorem Got9.set {gZ : Nat} {r : Ap.Rs} {y ev : Value} {c0 c1 c2 c3 c4 c5 c6 c7 : Value} (h : Got9 wr gZ r y ev #[c0, c1, c2, c3, c4, c5, c6, c7] w') (v0 v1 v2 v3 v4 v5 v6 v7 : Value) : Got9 wr gZ r y ev #[v0, v1, v2, v3, v4, v5, v6, v7] (set8 w' gZ v0 v1 v2 v3 v4 v5 v6 v7) := by
  have hc : ∀ b i, b ≠ gZ → (Go.Proofs.YtjjenpmahmbafaaGreatDoor.set8 w' gZ v0 v1 v2 v3 v4 v5 v6 v7).cell? ⟨b, i, none⟩ = w'.cell? ⟨b, i, none⟩ := fun b i hb => World.cell?_of_block (heap_set8 _ _ _ hb _ _ _ _ _ _ _ _)
  refine ⟨h.blk.set8 _ _ _ _ _ _ _ _, h.ge, In.keep (on_keep (fun _ hb _ => hb) (fun _ hb _ => heap_set8 _ _ _ hb _ _ _ _ _ _ _ _)) _ _ h.z, ?_⟩
  rcases h.ev with h | ⟨h0, b, h1, h2, h3, h4⟩
  · exact .inl h
  · exact .inr ⟨h0, b, h1, h2, (hc b 0 h1).trans h3, (hc b 1 h1).trans h4⟩
end
theorem SlO.take {c : Cl} {A : Option Addr} {l : List Opn} (h : SlO c A l) (k : Nat) : SlO c A (l.take k) := fun i o hi => by
  have hil := (List.getElem?_eq_some_iff.1 hi).1
  rw [List.getElem?_take_of_lt (by rw [List.length_take] at hil; omega)] at hi
  exact h i o hi

set_option linter.unusedVariables false in
set_option linter.unusedSimpArgs false in
set_option maxRecDepth 100000 in
set_option maxHeartbeats 4000000 in
theorem up9_any (hA : ApplyT) (w : World) (hE : ErrT w) : Calls Tryz.prog 5 #[] w fun e w' => e = .returned (.bool true) ∧ Below w.heap.size w w' := by
  have HA := Lib.hid hA
  have HP1 := Lib.hid (refParse_any ⟨#[123, 34, 97, 34, 58, 91, 49, 93, 125]⟩ (by decide) w)
  have HERR := Lib.hid hE
  clear hA hE
  go_enter Tryz.func5, Tryz.ntmps5
  go_wp2_with fail
  refine HP1.out.mono ?_
  rintro e w1 ⟨v, x, c, p, rfl, hx, hb1, hr⟩
  rw [show (⟨#[123, 34, 97, 34, 58, 91, 49, 93, 125]⟩ : ByteArray).data.toList = [123, 34, 97, 34, 58, 91, 49, 93, 125] from rfl, Ap.ex_v] at hr
  obtain ⟨rfl, rfl, rfl⟩ := hr
  obtain ⟨k_1, k_2, k_3, k_4, k_5, k_6, k_7, k_8, k_9, k_a, k_b, k_c, rfl⟩ := In.cells hx
  have HBA := Lib.hid (hb1.alloc hb1.size (.cells #[.int .i64 k_1, .bool k_2, .bool k_3, .string ⟨k_4.toArray⟩, .int .i64 k_5, .string ⟨k_6.toArray⟩, .slice k_7 k_8 k_9, .slice k_a k_b k_c] 28))
  have HXA := Lib.hid (In.keep (le_alloc w1 (.cells #[.int .i64 k_1, .bool k_2, .bool k_3, .string ⟨k_4.toArray⟩, .int .i64 k_5, .string ⟨k_6.toArray⟩, .slice k_7 k_8 k_9, .slice k_a k_b k_c] 28)) _ _ (In.keep (le_on w1 (w.heap.size ≤ ·)) _ _ hx))
  have HKA := Lib.hid (Blk.new w1 28 #[.int .i64 k_1, .bool k_2, .bool k_3, .string ⟨k_4.toArray⟩, .int .i64 k_5, .string ⟨k_6.toArray⟩, .slice k_7 k_8 k_9, .slice k_a k_b k_c])
  clear hx hb1 HP1
  go_upto_region 2 with (fail)
  generalize w1.alloc (.cells #[.int .i64 k_1, .bool k_2, .bool k_3, .string ⟨k_4.toArray⟩, .int .i64 k_5, .string ⟨k_6.toArray⟩, .slice k_7 k_8 k_9, .slice k_a k_b k_c] 28) = wa at *
  generalize w1.heap.size = g1 at *
  have HO := Lib.hid (show Calls Tryz.prog 7 #[.string ⟨([91, 123, 34, 111, 112, 34, 58, 34, 109, 111, 118, 101, 34, 44, 34, 102, 114, 111, 109, 34, 58, 34, 47, 97, 34, 44, 34, 112, 97, 116, 104, 34, 58, 34, 47, 98, 34, 125].append [44, 123, 34, 111, 112, 34, 58, 34, 116, 101, 115, 116, 34, 44, 34, 112, 97, 116, 104, 34, 58, 34, 47, 98, 47, 48, 34, 44, 34, 118, 97, 108, 117, 101, 34, 58, 50, 125, 93]).toArray⟩] wa
    (fun e w' => ∃ (A : Option Addr) (cp : Nat), e = .returned (.tuple #[.slice A 2 cp, .int .i64 1]) ∧ SlO w'.cell? A Ap.exL ∧ 2 ≤ cp ∧ cp ≤ maxLen ∧ Below wa.heap.size wa w' ∧ Ap.OpsFit Ap.exL ∧ Ap.exL.length ≤ 100) from
    ops_sure _ _ _ _ (by decide) Ap.ex_p Ap.ex_l wa)
  go_wp2_with fail
  refine HO.out.mono ?_
  rintro e2 w2 ⟨A, cp, rfl, hl, hcp, hcm, hb2, hof, _⟩
  obtain ⟨g, o, y0, rfl, _, _⟩ := hl 0 _ rfl
  have HB2 := Lib.hid (HBA.out.trans (hb2.mono HBA.out.size))
  have HX2 := Lib.hid (In.keep (le_below hb2) _ _ HXA.out)
  have HK2 := Lib.hid (HKA.out.on hb2)
  have HL2 := Lib.hid hl
  have HOF := Lib.hid hof
  have HR := Lib.hid (HA.out _ Ap.exV Ap.exL _ _ _ _ (Handed9.of HX2.out hl hcp hcm Ap.ex_val hof (by decide) (HERR.out.on HB2.out)))
  rw [Ap.ex_bad] at HR
  clear hl hb2 hof HBA HXA HKA HO
  obtain ⟨a0, a1, a2, a3, a4, a5, a6, a7⟩ := HK2.out.eight
  go_wp2_with fail
  refine HR.out.mono ?_
  rintro e3 w3 ⟨y3, ev, rfl, hy3, hsp, hb3⟩
  obtain ⟨j_1, j_2, j_3, j_4, j_5, j_6, j_7, j_8, j_9, j_a, j_b, j_c, rfl⟩ := In.cells hy3
  have hbb := hb3.alloc hb3.size (.cells #[.int .i64 j_1, .bool j_2, .bool j_3, .string ⟨j_4.toArray⟩, .int .i64 j_5, .string ⟨j_6.toArray⟩, .slice j_7 j_8 j_9, .slice j_a j_b j_c] 28)
  have HB3 := Lib.hid (HB2.out.trans (hbb.mono HB2.out.size))
  have HX3 := Lib.hid (In.keep (le_below hbb) _ _ HX2.out)
  have HL3 := Lib.hid (HL2.out.keep (le_below hbb))
  have HK3 := Lib.hid (HK2.out.on hbb)
  have HSP := Lib.hid (show Spots8 _ ev 8 1 from (hsp.on ((Below.refl w3.heap.size w3).alloc (Nat.le_refl _) (.cells #[.int .i64 j_1, .bool j_2, .bool j_3, .string ⟨j_4.toArray⟩, .int .i64 j_5, .string ⟨j_6.toArray⟩, .slice j_7 j_8 j_9, .slice j_a j_b j_c] 28))).spots)
  clear hy3 hsp hb3 hbb HB2 HX2 HL2 HK2 HR a0 a1 a2 a3 a4 a5 a6 a7
  go_upto_region 4 with (fail)
  generalize w3.alloc (.cells #[.int .i64 j_1, .bool j_2, .bool j_3, .string ⟨j_4.toArray⟩, .int .i64 j_5, .string ⟨j_6.toArray⟩, .slice j_7 j_8 j_9, .slice j_a j_b j_c] 28) = wb at *
  generalize w3.heap.size = g3 at *
  have HP3 := Lib.hid (show Part9 g1 #[.int .i64 k_1, .bool k_2, .bool k_3, .string ⟨k_4.toArray⟩, .int .i64 k_5, .string ⟨k_6.toArray⟩, .slice k_7 k_8 k_9, .slice k_a k_b k_c] wb wb from ⟨HK3.out, Below.refl _ _, HK3.out.lt⟩)
  have HH4 := Lib.hid (show ∀ (W : World), Below wb.heap.size wb W → Calls Tryz.prog 8 #[.agg #[.int .i64 k_1, .bool k_2, .bool k_3, .string ⟨k_4.toArray⟩, .int .i64 k_5, .string ⟨k_6.toArray⟩, .slice k_7 k_8 k_9, .slice k_a k_b k_c], .slice (some ⟨g, o, none⟩) 1 cp] W (ApplyE (fun b => b < wb.heap.size) (.ok Ap.exW) W) from fun W hb => by
    have h := HA.out (fun b => b < wb.heap.size) Ap.exV (Ap.exL.take 1) (.agg #[.int .i64 k_1, .bool k_2, .bool k_3, .string ⟨k_4.toArray⟩, .int .i64 k_5, .string ⟨k_6.toArray⟩, .slice k_7 k_8 k_9, .slice k_a k_b k_c]) (some ⟨g, o, none⟩) cp W ⟨fun b h => Nat.lt_of_lt_of_le h hb.size, In.keep ((le_whole wb).trans (on_keep (fun _ h _ => h) (fun b h _ => hb.block b h))) _ _ HX3.out, ((HL3.out.take 1).keep ((le_whole wb).trans (on_keep (fun _ h _ => h) (fun b h _ => hb.block b h)))), (show 1 ≤ cp by omega), hcm, Ap.ex_val, HOF.out.take 1, (by decide), (HERR.out.on HB3.out).on hb⟩
    rw [Ap.ex_ok] at h
    exact h)
  unfold maxLen at hcm
  go_cut [8, 9] from 32 to 32 (fun v8 v9 wc => ∃ (gZ : Nat) (ev2 : Value) (m_1 : Int) (m_2 m_3 : Bool) (m_4 : List UInt8) (m_5 : Int) (m_6 : List UInt8) (m_7 : Option Addr) (m_8 m_9 : Nat) (m_a : Option Addr) (m_b m_c : Nat), v8 = .pointer (some ⟨gZ, 0, none⟩) ∧ v9 = ev2 ∧ Below wb.heap.size wb wc ∧ Got9 wb gZ (.ok Ap.exW) (.agg #[.int .i64 m_1, .bool m_2, .bool m_3, .string ⟨m_4.toArray⟩, .int .i64 m_5, .string ⟨m_6.toArray⟩, .slice m_7 m_8 m_9, .slice m_a m_b m_c]) ev2 #[.int .i64 m_1, .bool m_2, .bool m_3, .string ⟨m_4.toArray⟩, .int .i64 m_5, .string ⟨m_6.toArray⟩, .slice m_7 m_8 m_9, .slice m_a m_b m_c] wc)
  case first =>
    refine wp_region_held_drew (S := Part9 g1 #[.int .i64 k_1, .bool k_2, .bool k_3, .string ⟨k_4.toArray⟩, .int .i64 k_5, .string ⟨k_6.toArray⟩, .slice k_7 k_8 k_9, .slice k_a k_b k_c] wb) (by kernel_rfl) HP3.out.drew (fun ht => ?_)
    refine wpAnyH_take (i := 0) (oi := ⟨some _, _, _, _, _, _⟩) (v := (.agg #[.int .i64 k_1, .bool k_2, .bool k_3, .string ⟨k_4.toArray⟩, .int .i64 k_5, .string ⟨k_6.toArray⟩, .slice k_7 k_8 k_9, .slice k_a k_b k_c])) rfl (by kernel_rfl) (by kernel_rfl) (by kernel_rfl) (fun _ _ _ h => h) (Or.inl ⟨by rfl, ?_⟩) ht ?_
    · intro W9 hSw
      obtain ⟨c0, c1, c2, c3, c4, c5, c6, c7⟩ := hSw.v.eight
      go_simp
    try simp only [Act.put, List.setIfInBounds_toArray, List.set_cons_zero, List.set_cons_succ]
    refine wpAnyH_take (i := 1) (oi := ⟨some _, _, _, _, _, _⟩) (v := (.slice (some ⟨g, o, none⟩) 2 cp)) rfl (by kernel_rfl) (by kernel_rfl) (by kernel_rfl) (fun _ _ _ h => h) (Or.inl ⟨by rfl, ?_⟩) ht ?_
    · intro W9 hSw
      go_simp
    try simp only [Act.put, List.setIfInBounds_toArray, List.set_cons_zero, List.set_cons_succ]
    refine wpAnyH_take (i := 2) (oi := ⟨some _, _, _, _, _, _⟩) (v := (.slice (some ⟨g, o, none⟩) 2 cp)) rfl (by kernel_rfl) (by kernel_rfl) (by kernel_rfl) (fun _ _ _ h => h) (Or.inl ⟨by rfl, ?_⟩) ht ?_
    · intro W9 hSw
      go_simp
    try simp only [Act.put, List.setIfInBounds_toArray, List.set_cons_zero, List.set_cons_succ]
    refine wpAnyH_take (i := 3) (oi := ⟨some _, _, _, _, _, _⟩) (v := (.int .i64 2)) rfl (by kernel_rfl) (by kernel_rfl) (by kernel_rfl) (fun _ _ _ h => h) (Or.inl ⟨by rfl, ?_⟩) ht ?_
    · intro W9 hSw
      go_simp
    try simp only [Act.put, List.setIfInBounds_toArray, List.set_cons_zero, List.set_cons_succ]
    refine wpAnyH_take (i := 4) (oi := ⟨some _, _, _, _, _, _⟩) (v := (.int .i64 1)) rfl (by kernel_rfl) (by kernel_rfl) (by kernel_rfl) (fun _ _ _ h => h) (Or.inl ⟨by rfl, ?_⟩) ht ?_
    · intro W9 hSw
      go_simp
      rfl
    try simp only [Act.put, List.setIfInBounds_toArray, List.set_cons_zero, List.set_cons_succ]
    refine wpAnyH_take (i := 5) (oi := ⟨some _, _, _, _, _, _⟩) (v := (.slice (some ⟨g, o, none⟩) 1 cp)) rfl (by kernel_rfl) (by kernel_rfl) (by kernel_rfl) (fun _ _ _ h => h) (Or.inl ⟨by rfl, ?_⟩) ht ?_
    · intro W9 hSw
      go_simp
      intro h; omega
    try simp only [Act.put, List.setIfInBounds_toArray, List.set_cons_zero, List.set_cons_succ]
    refine wpAnyH_ready (rs := [6, 10]) (by kernel_rfl) (by simp) ?_
    refine AllReadyH.cons (o := ⟨some _, _, _, _, _, _⟩) rfl (fun K hK => ?_) (AllReadyH.cons (o := ⟨some _, _, _, _, _, _⟩) rfl (fun K hK => ?_) (AllReadyH.nil))
    · go_simp
      refine (HH4.out _ ht.since).mono ?_
      rintro e2 w2 ⟨y2, ev2, rfl, hz2, hsp2, hb2⟩
      obtain ⟨m_1, m_2, m_3, m_4, m_5, m_6, m_7, m_8, m_9, m_a, m_b, m_c, rfl⟩ := In.cells hz2
      have hs : Part9 g1 #[.int .i64 k_1, .bool k_2, .bool k_3, .string ⟨k_4.toArray⟩, .int .i64 k_5, .string ⟨k_6.toArray⟩, .slice k_7 k_8 k_9, .slice k_a k_b k_c] wb w2 := ht.on hb2
      have HZ2 := Lib.hid (In.keep (on_all _ _) _ _ hz2)
      have HSP2 := Lib.hid hsp2.spots9
      clear hz2 hsp2 hb2 ht
      go_wp2_with fail
      refine hK.out _ _ hs (fun ht => ?_)
      clear hK K hs
      try simp only [Act.put, List.setIfInBounds_toArray, List.set_cons_zero, List.set_cons_succ]
      refine wpAnyH_take (i := 7) (oi := ⟨some _, _, _, _, _, _⟩) (v := (.tuple #[.agg #[.int .i64 m_1, .bool m_2, .bool m_3, .string ⟨m_4.toArray⟩, .int .i64 m_5, .string ⟨m_6.toArray⟩, .slice m_7 m_8 m_9, .slice m_a m_b m_c], ev2])) rfl (by kernel_rfl) (by kernel_rfl) (by kernel_rfl) (fun _ _ _ h => h) (Or.inl ⟨by rfl, ?_⟩) ht ?_
      · intro W9 hSw
        go_simp
      try simp only [Act.put, List.setIfInBounds_toArray, List.set_cons_zero, List.set_cons_succ]
      refine wpAnyH_take (i := 8) (oi := ⟨some _, _, _, _, _, _⟩) (v := (.agg #[.int .i64 m_1, .bool m_2, .bool m_3, .string ⟨m_4.toArray⟩, .int .i64 m_5, .string ⟨m_6.toArray⟩, .slice m_7 m_8 m_9, .slice m_a m_b m_c])) rfl (by kernel_rfl) (by kernel_rfl) (by kernel_rfl) (fun _ _ _ h => h) (Or.inl ⟨by rfl, ?_⟩) ht ?_
      · intro W9 hSw
        go_simp
      try simp only [Act.put, List.setIfInBounds_toArray, List.set_cons_zero, List.set_cons_succ]
      refine wpAnyH_take (i := 9) (oi := ⟨some _, _, _, _, _, _⟩) (v := ev2) rfl (by kernel_rfl) (by kernel_rfl) (by kernel_rfl) (fun _ _ _ h => h) (Or.inl ⟨by rfl, ?_⟩) ht ?_
      · intro W9 hSw
        go_simp
      try simp only [Act.put, List.setIfInBounds_toArray, List.set_cons_zero, List.set_cons_succ]
      refine wpAnyH_ready (rs := [10]) (by kernel_rfl) (by simp) ?_
      refine AllReadyH.cons (o := ⟨some _, _, _, _, _, _⟩) rfl (fun K hK => ?_) (AllReadyH.nil)
      go_simp
      refine via9 (K := K) (fun W9 => Part9 g1 #[.int .i64 k_1, .bool k_2, .bool k_3, .string ⟨k_4.toArray⟩, .int .i64 k_5, .string ⟨k_6.toArray⟩, .slice k_7 k_8 k_9, .slice k_a k_b k_c] wb W9 ∧ Got9 wb w2.heap.size (Ap.Rs.ok Ap.exW) (.agg #[.int .i64 m_1, .bool m_2, .bool m_3, .string ⟨m_4.toArray⟩, .int .i64 m_5, .string ⟨m_6.toArray⟩, .slice m_7 m_8 m_9, .slice m_a m_b m_c]) ev2 zeroC W9) ⟨ht.alloc _, Got9.new ht.since HZ2.out HSP2.out⟩ ?_
      rintro x3 ⟨ht1, hf⟩
      have HF := Lib.hid hf
      clear hf HZ2 HSP2
      refine hK.out _ _ ht1 (fun ht => ?_)
      clear hK K ht1
      try simp only [Act.put, List.setIfInBounds_toArray, List.set_cons_zero, List.set_cons_succ]
      obtain ⟨gZ, hgZ⟩ : ∃ g, g = w2.heap.size := ⟨_, rfl⟩
      rw [← hgZ] at HF ⊢
      clear hgZ
      refine wpAnyH_ready (rs := [11]) (by kernel_rfl) (by simp) ?_
      refine AllReadyH.cons (o := ⟨none, _, _, _, _, _⟩) rfl (fun K hK => ?_) (AllReadyH.nil)
      obtain ⟨z0, z1, z2, z3, z4, z5, z6, z7⟩ := HF.out.blk.eight
      have zf := HF.out.blk.frozen
      have zl := HF.out.blk.lt
      go_simp
      refine via9 (K := K) (fun W9 => Part9 g1 #[.int .i64 k_1, .bool k_2, .bool k_3, .string ⟨k_4.toArray⟩, .int .i64 k_5, .string ⟨k_6.toArray⟩, .slice k_7 k_8 k_9, .slice k_a k_b k_c] wb W9 ∧ Got9 wb gZ (Ap.Rs.ok Ap.exW) (.agg #[.int .i64 m_1, .bool m_2, .bool m_3, .string ⟨m_4.toArray⟩, .int .i64 m_5, .string ⟨m_6.toArray⟩, .slice m_7 m_8 m_9, .slice m_a m_b m_c]) ev2 #[.int .i64 m_1, .bool m_2, .bool m_3, .string ⟨m_4.toArray⟩, .int .i64 m_5, .string ⟨m_6.toArray⟩, .slice m_7 m_8 m_9, .slice m_a m_b m_c] W9) ⟨ht.set8z HF.out.ge _ _ _ _ _ _ _ _, HF.out.set (.int .i64 m_1) (.bool m_2) (.bool m_3) (.string ⟨m_4.toArray⟩) (.int .i64 m_5) (.string ⟨m_6.toArray⟩) (.slice m_7 m_8 m_9) (.slice m_a m_b m_c)⟩ ?_
      rintro x5 ⟨ht1, hfin⟩
      have HFIN := Lib.hid hfin
      clear hfin z0 z1 z2 z3 z4 z5 z6 z7 zf zl HF
      refine hK.out _ _ ht1 (fun ht => ?_)
      clear hK K ht1
      try simp only [Act.put, List.setIfInBounds_toArray, List.set_cons_zero, List.set_cons_succ]
      refine wpAnyH_take (i := 12) (oi := ⟨some _, _, _, _, _, _⟩) (v := ev2) rfl (by kernel_rfl) (by kernel_rfl) (by kernel_rfl) (fun _ _ _ h => h) (Or.inl ⟨by rfl, ?_⟩) ht ?_
      · intro W9 hSw
        go_simp
      try simp only [Act.put, List.setIfInBounds_toArray, List.set_cons_zero, List.set_cons_succ]
      refine wpAnyH_done (by kernel_rfl) ?_ _
      have HX5 := Lib.hid ht.since
      clear ht
      go_wp2_with fail
      go_meet
      case rel => exact ⟨gZ, ev2, m_1, m_2, m_3, m_4, m_5, m_6, m_7, m_8, m_9, m_a, m_b, m_c, rfl, rfl, HX5.out, HFIN.out⟩
    · go_simp
      refine via9 (K := K) (fun W9 => Part9 g1 #[.int .i64 k_1, .bool k_2, .bool k_3, .string ⟨k_4.toArray⟩, .int .i64 k_5, .string ⟨k_6.toArray⟩, .slice k_7 k_8 k_9, .slice k_a k_b k_c] wb W9 ∧ Lone9 wb wb.heap.size W9) ⟨ht.alloc _, Lone9.new wb⟩ ?_
      rintro x3 ⟨ht1, ha⟩
      have HA := Lib.hid ha
      clear ha
      refine hK.out _ _ ht1 (fun ht => ?_)
      clear hK K ht1
      try simp only [Act.put, List.setIfInBounds_toArray, List.set_cons_zero, List.set_cons_succ]
      obtain ⟨gZ, hgZ⟩ : ∃ g, g = wb.heap.size := ⟨_, rfl⟩
      rw [← hgZ] at HA ⊢
      clear hgZ
      refine wpAnyH_ready (rs := [6]) (by kernel_rfl) (by simp) ?_
      refine AllReadyH.cons (o := ⟨some _, _, _, _, _, _⟩) rfl (fun K hK => ?_) (AllReadyH.nil)
      go_simp
      refine (HH4.out _ ht.since).mono ?_
      rintro e2 w2 ⟨y2, ev2, rfl, hz2, hsp2, hb2⟩
      obtain ⟨m_1, m_2, m_3, m_4, m_5, m_6, m_7, m_8, m_9, m_a, m_b, m_c, rfl⟩ := In.cells hz2
      have hs : Part9 g1 #[.int .i64 k_1, .bool k_2, .bool k_3, .string ⟨k_4.toArray⟩, .int .i64 k_5, .string ⟨k_6.toArray⟩, .slice k_7 k_8 k_9, .slice k_a k_b k_c] wb w2 := ht.on hb2
      have HF := Lib.hid (Got9.after HA.out hb2 hz2 hsp2)
      clear hz2 hsp2 hb2 ht HA
      go_wp2_with fail
      refine hK.out _ _ hs (fun ht => ?_)
      clear hK K hs
      try simp only [Act.put, List.setIfInBounds_toArray, List.set_cons_zero, List.set_cons_succ]
      refine wpAnyH_take (i := 7) (oi := ⟨some _, _, _, _, _, _⟩) (v := (.tuple #[.agg #[.int .i64 m_1, .bool m_2, .bool m_3, .string ⟨m_4.toArray⟩, .int .i64 m_5, .string ⟨m_6.toArray⟩, .slice m_7 m_8 m_9, .slice m_a m_b m_c], ev2])) rfl (by kernel_rfl) (by kernel_rfl) (by kernel_rfl) (fun _ _ _ h => h) (Or.inl ⟨by rfl, ?_⟩) ht ?_
      · intro W9 hSw
        go_simp
      try simp only [Act.put, List.setIfInBounds_toArray, List.set_cons_zero, List.set_cons_succ]
      refine wpAnyH_take (i := 8) (oi := ⟨some _, _, _, _, _, _⟩) (v := (.agg #[.int .i64 m_1, .bool m_2, .bool m_3, .string ⟨m_4.toArray⟩, .int .i64 m_5, .string ⟨m_6.toArray⟩, .slice m_7 m_8 m_9, .slice m_a m_b m_c])) rfl (by kernel_rfl) (by kernel_rfl) (by kernel_rfl) (fun _ _ _ h => h) (Or.inl ⟨by rfl, ?_⟩) ht ?_
      · intro W9 hSw
        go_simp
      try simp only [Act.put, List.setIfInBounds_toArray, List.set_cons_zero, List.set_cons_succ]
      refine wpAnyH_take (i := 9) (oi := ⟨some _, _, _, _, _, _⟩) (v := ev2) rfl (by kernel_rfl) (by kernel_rfl) (by kernel_rfl) (fun _ _ _ h => h) (Or.inl ⟨by rfl, ?_⟩) ht ?_
      · intro W9 hSw
        go_simp
      try simp only [Act.put, List.setIfInBounds_toArray, List.set_cons_zero, List.set_cons_succ]
      refine wpAnyH_ready (rs := [11]) (by kernel_rfl) (by simp) ?_
      refine AllReadyH.cons (o := ⟨none, _, _, _, _, _⟩) rfl (fun K hK => ?_) (AllReadyH.nil)
      obtain ⟨z0, z1, z2, z3, z4, z5, z6, z7⟩ := HF.out.blk.eight
      have zf := HF.out.blk.frozen
      have zl := HF.out.blk.lt
      go_simp
      refine via9 (K := K) (fun W9 => Part9 g1 #[.int .i64 k_1, .bool k_2, .bool k_3, .string ⟨k_4.toArray⟩, .int .i64 k_5, .string ⟨k_6.toArray⟩, .slice k_7 k_8 k_9, .slice k_a k_b k_c] wb W9 ∧ Got9 wb gZ (Ap.Rs.ok Ap.exW) (.agg #[.int .i64 m_1, .bool m_2, .bool m_3, .string ⟨m_4.toArray⟩, .int .i64 m_5, .string ⟨m_6.toArray⟩, .slice m_7 m_8 m_9, .slice m_a m_b m_c]) ev2 #[.int .i64 m_1, .bool m_2, .bool m_3, .string ⟨m_4.toArray⟩, .int .i64 m_5, .string ⟨m_6.toArray⟩, .slice m_7 m_8 m_9, .slice m_a m_b m_c] W9) ⟨ht.set8z HF.out.ge _ _ _ _ _ _ _ _, HF.out.set (.int .i64 m_1) (.bool m_2) (.bool m_3) (.string ⟨m_4.toArray⟩) (.int .i64 m_5) (.string ⟨m_6.toArray⟩) (.slice m_7 m_8 m_9) (.slice m_a m_b m_c)⟩ ?_
      rintro x5 ⟨ht1, hfin⟩
      have HFIN := Lib.hid hfin
      clear hfin z0 z1 z2 z3 z4 z5 z6 z7 zf zl HF
      refine hK.out _ _ ht1 (fun ht => ?_)
      clear hK K ht1
      try simp only [Act.put, List.setIfInBounds_toArray, List.set_cons_zero, List.set_cons_succ]
      refine wpAnyH_take (i := 12) (oi := ⟨some _, _, _, _, _, _⟩) (v := ev2) rfl (by kernel_rfl) (by kernel_rfl) (by kernel_rfl) (fun _ _ _ h => h) (Or.inl ⟨by rfl, ?_⟩) ht ?_
      · intro W9 hSw
        go_simp
      try simp only [Act.put, List.setIfInBounds_toArray, List.set_cons_zero, List.set_cons_succ]
      refine wpAnyH_done (by kernel_rfl) ?_ _
      have HX5 := Lib.hid ht.since
      clear ht
      go_wp2_with fail
      go_meet
      case rel => exact ⟨gZ, ev2, m_1, m_2, m_3, m_4, m_5, m_6, m_7, m_8, m_9, m_a, m_b, m_c, rfl, rfl, HX5.out, HFIN.out⟩
  case rest =>
  obtain ⟨gZ, ev2, m_1, m_2, m_3, m_4, m_5, m_6, m_7, m_8, m_9, m_a, m_b, m_c, rfl, rfl, hb4, hgot⟩ := hcut
  obtain ⟨w4, hw4⟩ : ∃ W, W = wc := ⟨_, rfl⟩
  subst hw4
  obtain ⟨rfl, _, _⟩ | ⟨h0, _⟩ := hgot.ev
  · have HB4 := Lib.hid (HB3.out.trans (hb4.mono HB3.out.size))
    have HSP4 := Lib.hid (HSP.out.on hb4)
    have HM4 := Lib.hid hgot.blk
    have HY4 := Lib.hid (show Ap.exW.In w4.cell? (.agg #[.int .i64 m_1, .bool m_2, .bool m_3, .string ⟨m_4.toArray⟩, .int .i64 m_5, .string ⟨m_6.toArray⟩, .slice m_7 m_8 m_9, .slice m_a m_b m_c]) from In.keep (on_all _ _) _ _ hgot.z)
    have HP5 := Lib.hid (refParse_any ⟨#[123, 34, 98, 34, 58, 91, 49, 93, 125]⟩ (by decide) w4)
    clear hgot hb4 HB3 HSP HP3 HH4 HX3 HL3 HK3
    go_wp2_with fail
    refine HP5.out.mono ?_
    rintro e w5 ⟨v, x, c, p, rfl, hx, hb5, hr⟩
    rw [show (⟨#[123, 34, 98, 34, 58, 91, 49, 93, 125]⟩ : ByteArray).data.toList = [123, 34, 98, 34, 58, 91, 49, 93, 125] from rfl, Ap.ex_w] at hr
    obtain ⟨rfl, rfl, rfl⟩ := hr
    obtain ⟨n_1, n_2, n_3, n_4, n_5, n_6, n_7, n_8, n_9, n_a, n_b, n_c, rfl⟩ := In.cells hx
    have hbb := hb5.alloc hb5.size (.cells #[.int .i64 n_1, .bool n_2, .bool n_3, .string ⟨n_4.toArray⟩, .int .i64 n_5, .string ⟨n_6.toArray⟩, .slice n_7 n_8 n_9, .slice n_a n_b n_c] 28)
    have HB5 := Lib.hid (HB4.out.trans (hbb.mono HB4.out.size))
    have HSP5 := Lib.hid (HSP4.out.on hbb)
    have HM5 := Lib.hid (HM4.out.on hbb)
    have HN5 := Lib.hid (Blk.new w5 28 #[.int .i64 n_1, .bool n_2, .bool n_3, .string ⟨n_4.toArray⟩, .int .i64 n_5, .string ⟨n_6.toArray⟩, .slice n_7 n_8 n_9, .slice n_a n_b n_c])
    have HY5 := Lib.hid (In.keep (le_below hbb) _ _ HY4.out)
    have HZ5 := Lib.hid (In.keep (le_alloc w5 (.cells #[.int .i64 n_1, .bool n_2, .bool n_3, .string ⟨n_4.toArray⟩, .int .i64 n_5, .string ⟨n_6.toArray⟩, .slice n_7 n_8 n_9, .slice n_a n_b n_c] 28)) _ _ (In.keep (le_on w5 (w4.heap.size ≤ ·)) _ _ hx))
    clear hx hb5 hbb HB4 HSP4 HM4 HY4 HP5
    go_upto_region 6 with (fail)
    generalize w5.alloc (.cells #[.int .i64 n_1, .bool n_2, .bool n_3, .string ⟨n_4.toArray⟩, .int .i64 n_5, .string ⟨n_6.toArray⟩, .slice n_7 n_8 n_9, .slice n_a n_b n_c] 28) = wd at *
    generalize w5.heap.size = g5 at *
    go_wp2_with fail
    refine (spots8_any HSP5.out).mono ?_
    rintro e6 w6 ⟨rfl, hb6⟩
    have HB6 := Lib.hid (HB5.out.trans (hb6.mono HB5.out.size))
    have HSM := Lib.hid (refSame_any _ _ _ _ w6 (In.keep (le_below hb6) _ _ HY5.out) (In.keep (le_below hb6) _ _ HZ5.out))
    rw [same_refl] at HSM
    have HM6 := Lib.hid (HM5.out.on hb6)
    have HN6 := Lib.hid (HN5.out.on hb6)
    clear hb6 HB5 HM5 HN5 HY5 HZ5 HSP5
    obtain ⟨a0, a1, a2, a3, a4, a5, a6, a7⟩ := HM6.out.eight
    obtain ⟨b0, b1, b2, b3, b4, b5, b6, b7⟩ := HN6.out.eight
    go_wp2_with fail
    refine HSM.out.mono ?_
    rintro e7 w7 ⟨rfl, hb7⟩
    have HB7 := Lib.hid (HB6.out.trans (hb7.mono HB6.out.size))
    clear hb7
    go_wp2_with fail
    go_ret
    exact ⟨rfl, HB7.out⟩
  · exact absurd rfl h0

end Go.Proofs.YtjjenpmahmbafaaGreatDoor


