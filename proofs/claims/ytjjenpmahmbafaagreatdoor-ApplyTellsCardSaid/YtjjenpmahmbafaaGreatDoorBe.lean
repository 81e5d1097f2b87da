/- The walks of layer 9 (apply): the document's Apply. (Region 4 by gen_be.py.) -/
import Derived.Test.YtjjenpmahmbafaaGreatDoorBc
import Derived.Test.YtjjenpmahmbafaaGreatDoorAl
import Derived.Deep.RegionHeld3
import Derived.KernelRfl
import Derived.Test.YtjjenpmahmbafaaGreatDoorMe
import Derived.Test.YtjjenpmahmbafaaGreatDoorMr
namespace Go.Proofs.YtjjenpmahmbafaaGreatDoor
open Go.RowKit Pt Js Oq

theorem CellsAt.eleven {c : Cl} {g o : Nat} {c0 c1 c2 c3 c4 c5 c6 c7 c8 c9 c10 : Value} (h : CellsAt c g o (.agg #[c0, c1, c2, c3, c4, c5, c6, c7, c8, c9, c10])) :
    c ⟨g, o, none⟩ = some c0 ∧ c ⟨g, o + 1, none⟩ = some c1 ∧ c ⟨g, o + 2, none⟩ = some c2 ∧ c ⟨g, o + 3, none⟩ = some c3 ∧ c ⟨g, o + 4, none⟩ = some c4 ∧ c ⟨g, o + 5, none⟩ = some c5 ∧ c ⟨g, o + 6, none⟩ = some c6 ∧ c ⟨g, o + 7, none⟩ = some c7 ∧ c ⟨g, o + 8, none⟩ = some c8 ∧ c ⟨g, o + 9, none⟩ = some c9 ∧ c ⟨g, o + 10, none⟩ = some c10 :=
  ⟨h 0 _ rfl, h 1 _ rfl, h 2 _ rfl, h 3 _ rfl, h 4 _ rfl, h 5 _ rfl, h 6 _ rfl, h 7 _ rfl, h 8 _ rfl, h 9 _ rfl, h 10 _ rfl⟩

theorem via9 {K : Act → World → Prop} {a : Act} {w' : World} (F : World → Prop) (hF : F w') (h : ∀ W, F W → K a W) : K a w' := h w' hF

def ApplyPost (S : Nat → Prop) (r : Ap.Rs) (w : World) (e : Ending) (w' : World) : Prop :=
  Below w.heap.size w w' ∧ ((∃ u y, r = .ok u ∧ e = .returned (.tuple #[y, .int .i64 0, .int .i64 0]) ∧ u.In (w'.on fun b => S b ∨ w.heap.size ≤ b) y) ∨
    (∃ (c i : Nat) (y : Value), r = .bad c i ∧ 0 < c ∧ c ≤ 14 ∧ e = .returned (.tuple #[y, .int .i64 c, .int .i64 i]) ∧ Ps.mkN.In (w'.on fun b => S b ∨ w.heap.size ≤ b) y))

structure Box9 (w : World) (S : Nat → Prop) (V : Array Value) (wr : World) : Prop where
  v : Blk wr w.heap.size 28 V
  r : Blk wr (w.heap.size + 1) 28 zeroC
  below : Below w.heap.size w wr
  hS : ∀ b, S b → b < w.heap.size
section
variable {w wr w' w'' : World} {S : Nat → Prop} {V : Array Value}
theorem Box9.on (h : Box9 w S V wr) (hb : Below wr.heap.size wr w') : Box9 w S V w' := ⟨h.v.on hb, h.r.on hb, h.below.trans (hb.mono h.below.size), h.hS⟩
theorem Box9.drew (h : Box9 w S V wr) : Box9 w S V wr.drew := ⟨h.v, h.r, h.below.drew, h.hS⟩
theorem Box9.size (h : Box9 w S V wr) : w.heap.size + 2 ≤ wr.heap.size := h.r.lt
theorem Box9.setz (h : Box9 w S V wr) {gZ : Nat} (hz : w.heap.size + 2 ≤ gZ) (v0 v1 v2 v3 v4 v5 v6 v7 : Value) : Box9 w S V (set8 wr gZ v0 v1 v2 v3 v4 v5 v6 v7) :=
  ⟨h.v.set8o (by omega) _ _ _ _ _ _ _ _, h.r.set8o (by omega) _ _ _ _ _ _ _ _, below_set8 h.below (by omega) _ _ _ _ _ _ _ _, h.hS⟩
theorem Box9.setv {c0 c1 c2 c3 c4 c5 c6 c7 : Value} (h : Box9 w S #[c0, c1, c2, c3, c4, c5, c6, c7] wr) (v0 v1 v2 v3 v4 v5 v6 v7 : Value) : Box9 w S #[v0, v1, v2, v3, v4, v5, v6, v7] (set8 wr w.heap.size v0 v1 v2 v3 v4 v5 v6 v7) :=
  ⟨h.v.set8 _ _ _ _ _ _ _ _, h.r.set8o (by omega) _ _ _ _ _ _ _ _, below_set8 h.below (Nat.le_refl _) _ _ _ _ _ _ _ _, h.hS⟩
def Off9 (w : World) (S : Nat → Prop) (b : Nat) : Prop := S b ∨ w.heap.size + 2 ≤ b
theorem Box9.leV (h : Box9 w S V wr) (v0 v1 v2 v3 v4 v5 v6 v7 : Value) : Cl.le (wr.on (Off9 w S)) ((set8 wr w.heap.size v0 v1 v2 v3 v4 v5 v6 v7).on (Off9 w S)) :=
  on_keep (fun _ hb _ => hb) (fun b hb _ => heap_set8 _ _ _ (by rcases hb with k | k; have := h.hS b k; omega; omega) _ _ _ _ _ _ _ _)
theorem Box9.leR (h : Box9 w S V wr) (v0 v1 v2 v3 v4 v5 v6 v7 : Value) : Cl.le (wr.on (Off9 w S)) ((set8 wr (w.heap.size + 1) v0 v1 v2 v3 v4 v5 v6 v7).on fun b => S b ∨ w.heap.size ≤ b) :=
  on_keep (fun _ hb _ => hb.imp id (fun k => by omega)) (fun b hb _ => heap_set8 _ _ _ (by rcases hb with k | k; have := h.hS b k; omega; omega) _ _ _ _ _ _ _ _)
theorem Box9.leS (h : Box9 w S V wr) : Cl.le (w.on S) (wr.on (Off9 w S)) := on_keep (fun _ h _ => .inl h) (fun b _ h2 => h.below.block b h2)
theorem Box9.bad (h : Box9 w S V wr) {r : Ap.Rs} {c i : Nat} (hr : r = .bad c i) (h1 : 0 < c) (h2 : c ≤ 14) :
    ApplyPost S r w (.returned (.tuple #[.agg zeroC, .int .i64 c, .int .i64 i])) (set8 wr (w.heap.size + 1) (.int .i64 0) (.bool false) (.bool false) (.string ⟨#[]⟩) (.int .i64 0) (.string ⟨#[]⟩) (.slice none 0 0) (.slice none 0 0)) :=
  ⟨below_set8 h.below (by omega) _ _ _ _ _ _ _ _, .inr ⟨c, i, _, hr, h1, h2, rfl, leaf_in _ 0 false Nm.Num.zero []⟩⟩
theorem Box9.ok (h : Box9 w S V wr) {r : Ap.Rs} {u : Vl} (hr : r = .ok u) {j_1 : Int} {j_2 j_3 : Bool} {j_4 : List UInt8} {j_5 : Int} {j_6 : List UInt8} {j_7 : Option Addr} {j_8 j_9 : Nat} {j_a : Option Addr} {j_b j_c : Nat} (hu : u.In (wr.on (Off9 w S)) (.agg #[.int .i64 j_1, .bool j_2, .bool j_3, .string ⟨j_4.toArray⟩, .int .i64 j_5, .string ⟨j_6.toArray⟩, .slice j_7 j_8 j_9, .slice j_a j_b j_c])) :
    ApplyPost S r w (.returned (.tuple #[.agg #[.int .i64 j_1, .bool j_2, .bool j_3, .string ⟨j_4.toArray⟩, .int .i64 j_5, .string ⟨j_6.toArray⟩, .slice j_7 j_8 j_9, .slice j_a j_b j_c], .int .i64 0, .int .i64 0])) (set8 wr (w.heap.size + 1) (.int .i64 j_1) (.bool j_2) (.bool j_3) (.string ⟨j_4.toArray⟩) (.int .i64 j_5) (.string ⟨j_6.toArray⟩) (.slice j_7 j_8 j_9) (.slice j_a j_b j_c)) :=
  ⟨below_set8 h.below (by omega) _ _ _ _ _ _ _ _, .inl ⟨u, _, hr, rfl, In.keep (h.leR (.int .i64 j_1) (.bool j_2) (.bool j_3) (.string ⟨j_4.toArray⟩) (.int .i64 j_5) (.string ⟨j_6.toArray⟩) (.slice j_7 j_8 j_9) (.slice j_a j_b j_c)) _ _ hu⟩⟩

def Old9 (w : World) (S : Nat → Prop) (wr : World) (b : Nat) : Prop := Off9 w S b ∧ b < wr.heap.size
structure Run9 (w : World) (S : Nat → Prop) (V : Array Value) (wr W : World) : Prop where
  box : Box9 w S V W
  since : Below wr.heap.size wr W
theorem Run9.on (h : Run9 w S V wr w') (hb : Below w'.heap.size w' w'') : Run9 w S V wr w'' := ⟨h.box.on hb, h.since.trans (hb.mono h.since.size)⟩
theorem Run9.drew (h : Run9 w S V wr w') : Run9 w S V wr w'.drew := ⟨h.box.drew, h.since.drew⟩
theorem Run9.alloc (h : Run9 w S V wr w') (o : Obj) : Run9 w S V wr (w'.alloc o) := h.on ((Below.refl _ _).alloc (Nat.le_refl _) o)
theorem Run9.val (h : Run9 w S V wr w') {z : Vl} {y : Value} (hz : z.In (w''.on fun b => Old9 w S wr b ∨ w'.heap.size ≤ b) y) : z.In (w''.on (Off9 w S)) y :=
  In.keep (on_sub fun _ k => k.elim (fun k => k.1) (fun k => .inr (Nat.le_trans h.box.size k))) _ _ hz
theorem Run9.set8z (h : Run9 w S V wr w') {gZ : Nat} (hz : w.heap.size + 2 ≤ gZ ∧ wr.heap.size ≤ gZ) (v0 v1 v2 v3 v4 v5 v6 v7 : Value) : Run9 w S V wr (set8 w' gZ v0 v1 v2 v3 v4 v5 v6 v7) :=
  ⟨h.box.setz hz.1 _ _ _ _ _ _ _ _, below_set8 h.since hz.2 _ _ _ _ _ _ _ _⟩
structure Alone9 (w wr : World) (gZ : Nat) (W : World) : Prop where
  blk : Blk W gZ 28 zeroC
  ge : w.heap.size + 2 ≤ gZ ∧ wr.heap.size ≤ gZ
theorem Alone9.new (h : Run9 w S V wr w') : Alone9 w wr w'.heap.size (w'.alloc (.cells zeroC 28)) := ⟨Blk.new _ _ _, h.box.size, h.since.size⟩
structure Fresh9 (w wr : World) (S : Nat → Prop) (gZ : Nat) (z : Vl) (y : Value) (C : Array Value) (W : World) : Prop where
  blk : Blk W gZ 28 C
  ge : w.heap.size + 2 ≤ gZ ∧ wr.heap.size ≤ gZ
  z : z.In (W.on fun b => Off9 w S b ∧ b ≠ gZ) y
theorem Fresh9.new (h : Run9 w S V wr w') {z : Vl} {y : Value} (hz : z.In (w'.on (Off9 w S)) y) : Fresh9 w wr S w'.heap.size z y zeroC (w'.alloc (.cells zeroC 28)) :=
  ⟨Blk.new _ _ _, ⟨h.box.size, h.since.size⟩, In.keep (on_keep (fun b hb h2 => ⟨hb, by omega⟩) (fun b _ h2 => Below.heap_alloc _ _ _ h2)) _ _ hz⟩
theorem Fresh9.after {gZ : Nat} (ha : Alone9 w wr gZ w') (h : Run9 w S V wr w') (hb : Below w'.heap.size w' w'') {z : Vl} {y : Value} (hz : z.In (w''.on fun b => Old9 w S wr b ∨ w'.heap.size ≤ b) y) : Fresh9 w wr S gZ z y zeroC w'' :=
  ⟨ha.blk.on hb, ha.ge, In.keep (on_sub fun b k => ⟨k.elim (fun k => k.1) (fun k => .inr (Nat.le_trans h.box.size k)), by have := ha.ge.2; have := ha.blk.lt; rcases k with k | k; have := k.2; omega; omega⟩) _ _ hz⟩
theorem Fresh9.set {gZ : Nat} {z : Vl} {y : Value} {c0 c1 c2 c3 c4 c5 c6 c7 : Value} (h : Fresh9 w wr S gZ z y #[c0, c1, c2, c3, c4, c5, c6, c7] w') (v0 v1 v2 v3 v4 v5 v6 v7 : Value) : Fresh9 w wr S gZ z y #[v0, v1, v2, v3, v4, v5, v6, v7] (set8 w' gZ v0 v1 v2 v3 v4 v5 v6 v7) :=
  ⟨h.blk.set8 _ _ _ _ _ _ _ _, h.ge, In.keep (on_keep (fun _ hb _ => hb) (fun _ hb _ => heap_set8 _ _ _ hb.2 _ _ _ _ _ _ _ _)) _ _ h.z⟩
end
def Going9 (w : World) (S : Nat → Prop) (l : List Opn) (v : Vl) (i : Value) (wr : World) : Prop :=
  ∃ (j : Nat) (u : Vl) (V : Array Value), i = .int .i64 j ∧ j ≤ l.length ∧ Box9 w S V wr ∧ u.In (wr.on (Off9 w S)) (.agg V) ∧ Ed.neat u = true ∧ u.size ≤ 3000 ∧ Ap.applyAt v l 0 = Ap.applyAt u (l.drop j) j
theorem apply_step {v u z : Vl} {l : List Opn} {j : Nat} (hj : j < l.length) (h : Ap.applyAt v l 0 = Ap.applyAt u (l.drop j) j) : (Ap.done u (l[j]'hj) = .ok z → Ap.applyAt v l 0 = Ap.applyAt z (l.drop (j + 1)) (j + 1)) ∧ (∀ c, Ap.done u (l[j]'hj) = .bad c → Ap.applyAt v l 0 = .bad c j) := by
  rw [List.drop_eq_getElem_cons hj, Ap.applyAt_cons] at h
  exact ⟨fun e => by rw [e] at h; exact h, fun c e => by rw [e] at h; exact h⟩
theorem apply_end {v u : Vl} {l : List Opn} (h : Ap.applyAt v l 0 = Ap.applyAt u (l.drop l.length) l.length) : Ap.applyAt v l 0 = .ok u := by
  rw [List.drop_length] at h; exact h
theorem done_bad {u : Vl} {o : Opn} {c : Nat} (h : Ap.doOp u o = .bad c) : Ap.done u o = .bad c := by unfold Ap.done; rw [h]
theorem done_big {u z : Vl} {o : Opn} (h : Ap.doOp u o = .ok z) (h1 : 3000 < z.size) : Ap.done u o = .bad 5 := by unfold Ap.done; rw [h]; simp only; rw [if_pos h1]
theorem done_deep {u z : Vl} {o : Opn} (h : Ap.doOp u o = .ok z) (h1 : ¬ 3000 < z.size) (h2 : 32 < z.depth) : Ap.done u o = .bad 3 := by unfold Ap.done; rw [h]; simp only; rw [if_neg h1, if_pos h2]

set_option linter.unusedVariables false in
set_option linter.unusedSimpArgs false in
set_option maxRecDepth 100000 in
set_option maxHeartbeats 8000000 in
theorem refApply_any (S : Nat → Prop) (v : Vl) (l : List Opn) (xv : Value) (A : Option Addr) (e : Nat) (w : World) (hS : ∀ b, S b → b < w.heap.size) (hne : Ed.neat v = true) (hsz : v.size ≤ 3000) (ho : ∀ o ∈ l, Ap.OpFit o) (hx : v.In (w.on S) xv) (hl : SlO (w.on S) A l) (hle : l.length ≤ e) (hm : e ≤ maxLen) :
    Calls Tryz.prog 9 #[xv, .slice A l.length e] w (ApplyPost S (Ap.applyAt v l 0) w) := by
  obtain ⟨k_1, k_2, k_3, k_4, k_5, k_6, k_7, k_8, k_9, k_a, k_b, k_c, rfl⟩ := In.cells hx
  have HL := Lib.hid hl
  have HO := Lib.hid ho
  have HE0 := Lib.hid (show Box9 w S #[.int .i64 k_1, .bool k_2, .bool k_3, .string ⟨k_4.toArray⟩, .int .i64 k_5, .string ⟨k_6.toArray⟩, .slice k_7 k_8 k_9, .slice k_a k_b k_c] ((w.alloc (.cells #[.int .i64 k_1, .bool k_2, .bool k_3, .string ⟨k_4.toArray⟩, .int .i64 k_5, .string ⟨k_6.toArray⟩, .slice k_7 k_8 k_9, .slice k_a k_b k_c] 28)).alloc (.cells zeroC 28)) from
    ⟨(Blk.new w 28 #[.int .i64 k_1, .bool k_2, .bool k_3, .string ⟨k_4.toArray⟩, .int .i64 k_5, .string ⟨k_6.toArray⟩, .slice k_7 k_8 k_9, .slice k_a k_b k_c]).alloc _, Blk.new2 w (.cells #[.int .i64 k_1, .bool k_2, .bool k_3, .string ⟨k_4.toArray⟩, .int .i64 k_5, .string ⟨k_6.toArray⟩, .slice k_7 k_8 k_9, .slice k_a k_b k_c] 28) 28 _, (((Below.refl w.heap.size w).alloc (Nat.le_refl _) _).alloc (by simp) _), hS⟩)
  have HX := Lib.hid (In.keep HE0.out.leS _ _ hx)
  unfold maxLen at hm
  clear hx hl ho
  go_enter Tryz.func9, Tryz.ntmps9
  go_upto_region 1 with (fail)
  generalize (w.alloc (.cells #[.int .i64 k_1, .bool k_2, .bool k_3, .string ⟨k_4.toArray⟩, .int .i64 k_5, .string ⟨k_6.toArray⟩, .slice k_7 k_8 k_9, .slice k_a k_b k_c] 28)).alloc (.cells zeroC 28) = w0 at *
  go_wp2_with fail
  go_loopw [7] (Going9 w S l v) (fun i _ => l.length - (intOf i).toNat)
  case atStart => exact ⟨0, v, _, rfl, by omega, HE0.out, HX.out, hne, hsz, by rw [List.drop_zero]⟩
  case round =>
    obtain ⟨j, u, V, rfl, hj, hbox, hu, hun, hus, hap⟩ := hrel
    obtain ⟨k_1, k_2, k_3, k_4, k_5, k_6, k_7, k_8, k_9, k_a, k_b, k_c, hV⟩ := In.cells hu
    injection hV with hV
    subst hV
    have HG0 := Lib.hid (show Run9 w S #[.int .i64 k_1, .bool k_2, .bool k_3, .string ⟨k_4.toArray⟩, .int .i64 k_5, .string ⟨k_6.toArray⟩, .slice k_7 k_8 k_9, .slice k_a k_b k_c] wr wr from ⟨hbox, Below.refl _ _⟩)
    have HU := Lib.hid hu
    have HAP := Lib.hid hap
    have hs0 := hbox.size
    clear hbox hu hap HE0 HX hne hsz
    by_cases hlt : j < l.length
    · obtain ⟨g, o, y, rfl, hy, hc⟩ := HL.out j _ (List.getElem?_eq_getElem hlt)
      obtain ⟨y_o, y_p, y_q, y_r, y_s, y_t, y_u, y_1, y_2, y_3, y_4, y_5, y_6, y_7, y_8, y_9, y_a, y_b, y_c, rfl⟩ := OIn.cells hy
      have hcl := (on_all w S).trans (le_below HG0.out.box.below)
      have HC := Lib.hid (show CellsAt wr.cell? g (o + j * 11) (.agg #[.int .i64 y_o, .slice y_p y_q y_r, .slice y_s y_t y_u, .int .i64 y_1, .bool y_2, .bool y_3, .string ⟨y_4.toArray⟩, .int .i64 y_5, .string ⟨y_6.toArray⟩, .slice y_7 y_8 y_9, .slice y_a y_b y_c]) from hc.keep hcl)
      have hof := HO.out _ (List.getElem_mem hlt)
      have HDO := Lib.hid (fun (W : World) (hb : Below wr.heap.size wr W) => refDo_any (Old9 w S wr) u (l[j]'hlt) (.agg #[.int .i64 k_1, .bool k_2, .bool k_3, .string ⟨k_4.toArray⟩, .int .i64 k_5, .string ⟨k_6.toArray⟩, .slice k_7 k_8 k_9, .slice k_a k_b k_c]) (.agg #[.int .i64 y_o, .slice y_p y_q y_r, .slice y_s y_t y_u, .int .i64 y_1, .bool y_2, .bool y_3, .string ⟨y_4.toArray⟩, .int .i64 y_5, .string ⟨y_6.toArray⟩, .slice y_7 y_8 y_9, .slice y_a y_b y_c]) W (fun b hb2 => Nat.lt_of_lt_of_le hb2.2 hb.size) hun hus hof
        (In.keep (on_keep (fun b h h2 => ⟨h, h2⟩) (fun b _ h2 => hb.block b h2)) _ _ HU.out)
        (OIn.keep (on_keep (fun b h h2 => ⟨.inl h, by have := HG0.out.box.below.size; omega⟩) (fun b _ h2 => (hb.block b (by have := HG0.out.box.below.size; omega)).trans (HG0.out.box.below.block b h2))) hy))
      have HST := Lib.hid (fun z => apply_step (z := z) hlt HAP.out)
      have HDN := Lib.hid (fun z (h : Ap.doOp u (l[j]'hlt) = .ok z) => Ap.doOp_neat hun hof h)
      have hj1 : (j : Int) < (l.length : Int) := by omega
      have hgl := World.block_lt_of_cell? _ _ (HC.out.eleven).1
      clear hc hy hcl hof
      generalize l[j]'hlt = op at *
      go_upto_region 4 with (fail)
      go_cut [8, 9] from 17 to 17 (fun v8 v9 wc => ∃ (gZ c2 : Nat) (zv : Vl) (m_1 : Int) (m_2 m_3 : Bool) (m_4 : List UInt8) (m_5 : Int) (m_6 : List UInt8) (m_7 : Option Addr) (m_8 m_9 : Nat) (m_a : Option Addr) (m_b m_c : Nat), v8 = .pointer (some ⟨gZ, 0, none⟩) ∧ v9 = .int .i64 c2 ∧ Box9 w S #[.int .i64 k_1, .bool k_2, .bool k_3, .string ⟨k_4.toArray⟩, .int .i64 k_5, .string ⟨k_6.toArray⟩, .slice k_7 k_8 k_9, .slice k_a k_b k_c] wc ∧ Fresh9 w wr S gZ zv (.agg #[.int .i64 m_1, .bool m_2, .bool m_3, .string ⟨m_4.toArray⟩, .int .i64 m_5, .string ⟨m_6.toArray⟩, .slice m_7 m_8 m_9, .slice m_a m_b m_c]) #[.int .i64 m_1, .bool m_2, .bool m_3, .string ⟨m_4.toArray⟩, .int .i64 m_5, .string ⟨m_6.toArray⟩, .slice m_7 m_8 m_9, .slice m_a m_b m_c] wc ∧ ((c2 = 0 ∧ Ap.doOp u op = .ok zv) ∨ (0 < c2 ∧ c2 ≤ 14 ∧ Ap.doOp u op = .bad c2 ∧ zv = Ps.mkN)))
      case first =>
        refine wp_region_held_drew (S := Run9 w S #[.int .i64 k_1, .bool k_2, .bool k_3, .string ⟨k_4.toArray⟩, .int .i64 k_5, .string ⟨k_6.toArray⟩, .slice k_7 k_8 k_9, .slice k_a k_b k_c] wr) (by kernel_rfl) HG0.out.drew (fun ht => ?_)
        refine wpAnyH_take (i := 0) (oi := ⟨some _, _, _, _, _, _⟩) (v := (.agg #[.int .i64 k_1, .bool k_2, .bool k_3, .string ⟨k_4.toArray⟩, .int .i64 k_5, .string ⟨k_6.toArray⟩, .slice k_7 k_8 k_9, .slice k_a k_b k_c])) rfl (by kernel_rfl) (by kernel_rfl) (by kernel_rfl) (fun _ _ _ h => h) (Or.inl ⟨by rfl, ?_⟩) ht ?_
        · intro W9 hSw
          obtain ⟨c0, c1, c2, c3, c4, c5, c6, c7⟩ := hSw.box.v.eight
          go_simp
        try simp only [Act.put, List.setIfInBounds_toArray, List.set_cons_zero, List.set_cons_succ]
        refine wpAnyH_take (i := 1) (oi := ⟨some _, _, _, _, _, _⟩) (v := (.slice (some ⟨g, o, none⟩) l.length e)) rfl (by kernel_rfl) (by kernel_rfl) (by kernel_rfl) (fun _ _ _ h => h) (Or.inl ⟨by rfl, ?_⟩) ht ?_
        · intro W9 hSw
          go_simp
        try simp only [Act.put, List.setIfInBounds_toArray, List.set_cons_zero, List.set_cons_succ]
        refine wpAnyH_take (i := 2) (oi := ⟨some _, _, _, _, _, _⟩) (v := (.int .i64 j)) rfl (by kernel_rfl) (by kernel_rfl) (by kernel_rfl) (fun _ _ _ h => h) (Or.inl ⟨by rfl, ?_⟩) ht ?_
        · intro W9 hSw
          go_simp
        try simp only [Act.put, List.setIfInBounds_toArray, List.set_cons_zero, List.set_cons_succ]
        refine wpAnyH_take (i := 3) (oi := ⟨some _, _, _, _, _, _⟩) (v := (.pointer (some ⟨g, o + j * 11, none⟩))) rfl (by kernel_rfl) (by kernel_rfl) (by kernel_rfl) (fun _ _ _ h => h) (Or.inl ⟨by rfl, ?_⟩) ht ?_
        · intro W9 hSw
          go_simp
        try simp only [Act.put, List.setIfInBounds_toArray, List.set_cons_zero, List.set_cons_succ]
        refine wpAnyH_take (i := 4) (oi := ⟨some _, _, _, _, _, _⟩) (v := (.agg #[.int .i64 y_o, .slice y_p y_q y_r, .slice y_s y_t y_u, .int .i64 y_1, .bool y_2, .bool y_3, .string ⟨y_4.toArray⟩, .int .i64 y_5, .string ⟨y_6.toArray⟩, .slice y_7 y_8 y_9, .slice y_a y_b y_c])) rfl (by kernel_rfl) (by kernel_rfl) (by kernel_rfl) (fun _ _ _ h => h) (Or.inl ⟨by rfl, ?_⟩) ht ?_
        · intro W9 hSw
          obtain ⟨c0, c1, c2, c3, c4, c5, c6, c7, c8, c9, c10⟩ := (HC.out.keep (le_below hSw.since)).eleven
          go_simp
        try simp only [Act.put, List.setIfInBounds_toArray, List.set_cons_zero, List.set_cons_succ]
        refine wpAnyH_ready (rs := [5, 9]) (by kernel_rfl) (by simp) ?_
        refine AllReadyH.cons (o := ⟨some _, _, _, _, _, _⟩) rfl (fun K hK => ?_) (AllReadyH.cons (o := ⟨some _, _, _, _, _, _⟩) rfl (fun K hK => ?_) (AllReadyH.nil))
        · go_simp
          refine (HDO.out _ ht.since).mono ?_
          intro e2 w2 h2
          obtain ⟨y2, c2, zv, rfl, hz2, hb2, hr2⟩ := h2.parts9
          obtain ⟨m_1, m_2, m_3, m_4, m_5, m_6, m_7, m_8, m_9, m_a, m_b, m_c, rfl⟩ := In.cells hz2
          have hs : Run9 w S #[.int .i64 k_1, .bool k_2, .bool k_3, .string ⟨k_4.toArray⟩, .int .i64 k_5, .string ⟨k_6.toArray⟩, .slice k_7 k_8 k_9, .slice k_a k_b k_c] wr w2 := ht.on hb2
          have HR2 := Lib.hid hr2
          have HZ2 := Lib.hid (ht.val hz2)
          clear hz2 hb2 hr2 h2 ht
          go_wp2_with fail
          refine hK.out _ _ hs (fun ht => ?_)
          clear hK K hs
          try simp only [Act.put, List.setIfInBounds_toArray, List.set_cons_zero, List.set_cons_succ]
          refine wpAnyH_take (i := 6) (oi := ⟨some _, _, _, _, _, _⟩) (v := (.tuple #[.agg #[.int .i64 m_1, .bool m_2, .bool m_3, .string ⟨m_4.toArray⟩, .int .i64 m_5, .string ⟨m_6.toArray⟩, .slice m_7 m_8 m_9, .slice m_a m_b m_c], .int .i64 c2])) rfl (by kernel_rfl) (by kernel_rfl) (by kernel_rfl) (fun _ _ _ h => h) (Or.inl ⟨by rfl, ?_⟩) ht ?_
          · intro W9 hSw
            go_simp
          try simp only [Act.put, List.setIfInBounds_toArray, List.set_cons_zero, List.set_cons_succ]
          refine wpAnyH_take (i := 7) (oi := ⟨some _, _, _, _, _, _⟩) (v := (.agg #[.int .i64 m_1, .bool m_2, .bool m_3, .string ⟨m_4.toArray⟩, .int .i64 m_5, .string ⟨m_6.toArray⟩, .slice m_7 m_8 m_9, .slice m_a m_b m_c])) rfl (by kernel_rfl) (by kernel_rfl) (by kernel_rfl) (fun _ _ _ h => h) (Or.inl ⟨by rfl, ?_⟩) ht ?_
          · intro W9 hSw
            go_simp
          try simp only [Act.put, List.setIfInBounds_toArray, List.set_cons_zero, List.set_cons_succ]
          refine wpAnyH_take (i := 8) (oi := ⟨some _, _, _, _, _, _⟩) (v := (.int .i64 c2)) rfl (by kernel_rfl) (by kernel_rfl) (by kernel_rfl) (fun _ _ _ h => h) (Or.inl ⟨by rfl, ?_⟩) ht ?_
          · intro W9 hSw
            go_simp
          try simp only [Act.put, List.setIfInBounds_toArray, List.set_cons_zero, List.set_cons_succ]
          refine wpAnyH_ready (rs := [9]) (by kernel_rfl) (by simp) ?_
          refine AllReadyH.cons (o := ⟨some _, _, _, _, _, _⟩) rfl (fun K hK => ?_) (AllReadyH.nil)
          go_simp
          refine via9 (K := K) (fun W9 => Run9 w S #[.int .i64 k_1, .bool k_2, .bool k_3, .string ⟨k_4.toArray⟩, .int .i64 k_5, .string ⟨k_6.toArray⟩, .slice k_7 k_8 k_9, .slice k_a k_b k_c] wr W9 ∧ Fresh9 w wr S w2.heap.size zv (.agg #[.int .i64 m_1, .bool m_2, .bool m_3, .string ⟨m_4.toArray⟩, .int .i64 m_5, .string ⟨m_6.toArray⟩, .slice m_7 m_8 m_9, .slice m_a m_b m_c]) zeroC W9) ⟨ht.alloc _, Fresh9.new ht HZ2.out⟩ ?_
          rintro x3 ⟨ht1, hf⟩
          have HF := Lib.hid hf
          clear hf HZ2
          refine hK.out _ _ ht1 (fun ht => ?_)
          clear hK K ht1
          try simp only [Act.put, List.setIfInBounds_toArray, List.set_cons_zero, List.set_cons_succ]
          obtain ⟨gZ, hgZ⟩ : ∃ g, g = w2.heap.size := ⟨_, rfl⟩
          rw [← hgZ] at HF ⊢
          clear hgZ
          refine wpAnyH_ready (rs := [10]) (by kernel_rfl) (by simp) ?_
          refine AllReadyH.cons (o := ⟨none, _, _, _, _, _⟩) rfl (fun K hK => ?_) (AllReadyH.nil)
          obtain ⟨z0, z1, z2, z3, z4, z5, z6, z7⟩ := HF.out.blk.eight
          have zf := HF.out.blk.frozen
          have zl := HF.out.blk.lt
          go_simp
          refine via9 (K := K) (fun W9 => Run9 w S #[.int .i64 k_1, .bool k_2, .bool k_3, .string ⟨k_4.toArray⟩, .int .i64 k_5, .string ⟨k_6.toArray⟩, .slice k_7 k_8 k_9, .slice k_a k_b k_c] wr W9 ∧ Fresh9 w wr S gZ zv (.agg #[.int .i64 m_1, .bool m_2, .bool m_3, .string ⟨m_4.toArray⟩, .int .i64 m_5, .string ⟨m_6.toArray⟩, .slice m_7 m_8 m_9, .slice m_a m_b m_c]) #[.int .i64 m_1, .bool m_2, .bool m_3, .string ⟨m_4.toArray⟩, .int .i64 m_5, .string ⟨m_6.toArray⟩, .slice m_7 m_8 m_9, .slice m_a m_b m_c] W9) ⟨ht.set8z HF.out.ge _ _ _ _ _ _ _ _, HF.out.set (.int .i64 m_1) (.bool m_2) (.bool m_3) (.string ⟨m_4.toArray⟩) (.int .i64 m_5) (.string ⟨m_6.toArray⟩) (.slice m_7 m_8 m_9) (.slice m_a m_b m_c)⟩ ?_
          rintro x5 ⟨ht1, hfin⟩
          have HFIN := Lib.hid hfin
          clear hfin z0 z1 z2 z3 z4 z5 z6 z7 zf zl HF
          refine hK.out _ _ ht1 (fun ht => ?_)
          clear hK K ht1
          try simp only [Act.put, List.setIfInBounds_toArray, List.set_cons_zero, List.set_cons_succ]
          refine wpAnyH_take (i := 11) (oi := ⟨some _, _, _, _, _, _⟩) (v := (.int .i64 c2)) rfl (by kernel_rfl) (by kernel_rfl) (by kernel_rfl) (fun _ _ _ h => h) (Or.inl ⟨by rfl, ?_⟩) ht ?_
          · intro W9 hSw
            go_simp
          try simp only [Act.put, List.setIfInBounds_toArray, List.set_cons_zero, List.set_cons_succ]
          refine wpAnyH_done (by kernel_rfl) ?_ _
          have HX5 := Lib.hid ht.box
          clear ht
          go_wp2_with fail
          go_meet
          case rel => exact ⟨gZ, c2, zv, m_1, m_2, m_3, m_4, m_5, m_6, m_7, m_8, m_9, m_a, m_b, m_c, rfl, rfl, HX5.out, HFIN.out, HR2.out⟩
        · go_simp
          refine via9 (K := K) (fun W9 => Run9 w S #[.int .i64 k_1, .bool k_2, .bool k_3, .string ⟨k_4.toArray⟩, .int .i64 k_5, .string ⟨k_6.toArray⟩, .slice k_7 k_8 k_9, .slice k_a k_b k_c] wr W9 ∧ Alone9 w wr wr.heap.size W9) ⟨ht.alloc _, Alone9.new ht⟩ ?_
          rintro x3 ⟨ht1, ha⟩
          have HA := Lib.hid ha
          clear ha
          refine hK.out _ _ ht1 (fun ht => ?_)
          clear hK K ht1
          try simp only [Act.put, List.setIfInBounds_toArray, List.set_cons_zero, List.set_cons_succ]
          obtain ⟨gZ, hgZ⟩ : ∃ g, g = wr.heap.size := ⟨_, rfl⟩
          rw [← hgZ] at HA ⊢
          clear hgZ
          refine wpAnyH_ready (rs := [5]) (by kernel_rfl) (by simp) ?_
          refine AllReadyH.cons (o := ⟨some _, _, _, _, _, _⟩) rfl (fun K hK => ?_) (AllReadyH.nil)
          go_simp
          refine (HDO.out _ ht.since).mono ?_
          intro e2 w2 h2
          obtain ⟨y2, c2, zv, rfl, hz2, hb2, hr2⟩ := h2.parts9
          obtain ⟨m_1, m_2, m_3, m_4, m_5, m_6, m_7, m_8, m_9, m_a, m_b, m_c, rfl⟩ := In.cells hz2
          have hs : Run9 w S #[.int .i64 k_1, .bool k_2, .bool k_3, .string ⟨k_4.toArray⟩, .int .i64 k_5, .string ⟨k_6.toArray⟩, .slice k_7 k_8 k_9, .slice k_a k_b k_c] wr w2 := ht.on hb2
          have HR2 := Lib.hid hr2
          have HF := Lib.hid (Fresh9.after HA.out ht hb2 hz2)
          clear hz2 hb2 hr2 h2 ht HA
          go_wp2_with fail
          refine hK.out _ _ hs (fun ht => ?_)
          clear hK K hs
          try simp only [Act.put, List.setIfInBounds_toArray, List.set_cons_zero, List.set_cons_succ]
          refine wpAnyH_take (i := 6) (oi := ⟨some _, _, _, _, _, _⟩) (v := (.tuple #[.agg #[.int .i64 m_1, .bool m_2, .bool m_3, .string ⟨m_4.toArray⟩, .int .i64 m_5, .string ⟨m_6.toArray⟩, .slice m_7 m_8 m_9, .slice m_a m_b m_c], .int .i64 c2])) rfl (by kernel_rfl) (by kernel_rfl) (by kernel_rfl) (fun _ _ _ h => h) (Or.inl ⟨by rfl, ?_⟩) ht ?_
          · intro W9 hSw
            go_simp
          try simp only [Act.put, List.setIfInBounds_toArray, List.set_cons_zero, List.set_cons_succ]
          refine wpAnyH_take (i := 7) (oi := ⟨some _, _, _, _, _, _⟩) (v := (.agg #[.int .i64 m_1, .bool m_2, .bool m_3, .string ⟨m_4.toArray⟩, .int .i64 m_5, .string ⟨m_6.toArray⟩, .slice m_7 m_8 m_9, .slice m_a m_b m_c])) rfl (by kernel_rfl) (by kernel_rfl) (by kernel_rfl) (fun _ _ _ h => h) (Or.inl ⟨by rfl, ?_⟩) ht ?_
          · intro W9 hSw
            go_simp
          try simp only [Act.put, List.setIfInBounds_toArray, List.set_cons_zero, List.set_cons_succ]
          refine wpAnyH_take (i := 8) (oi := ⟨some _, _, _, _, _, _⟩) (v := (.int .i64 c2)) rfl (by kernel_rfl) (by kernel_rfl) (by kernel_rfl) (fun _ _ _ h => h) (Or.inl ⟨by rfl, ?_⟩) ht ?_
          · intro W9 hSw
            go_simp
          try simp only [Act.put, List.setIfInBounds_toArray, List.set_cons_zero, List.set_cons_succ]
          refine wpAnyH_ready (rs := [10]) (by kernel_rfl) (by simp) ?_
          refine AllReadyH.cons (o := ⟨none, _, _, _, _, _⟩) rfl (fun K hK => ?_) (AllReadyH.nil)
          obtain ⟨z0, z1, z2, z3, z4, z5, z6, z7⟩ := HF.out.blk.eight
          have zf := HF.out.blk.frozen
          have zl := HF.out.blk.lt
          go_simp
          refine via9 (K := K) (fun W9 => Run9 w S #[.int .i64 k_1, .bool k_2, .bool k_3, .string ⟨k_4.toArray⟩, .int .i64 k_5, .string ⟨k_6.toArray⟩, .slice k_7 k_8 k_9, .slice k_a k_b k_c] wr W9 ∧ Fresh9 w wr S gZ zv (.agg #[.int .i64 m_1, .bool m_2, .bool m_3, .string ⟨m_4.toArray⟩, .int .i64 m_5, .string ⟨m_6.toArray⟩, .slice m_7 m_8 m_9, .slice m_a m_b m_c]) #[.int .i64 m_1, .bool m_2, .bool m_3, .string ⟨m_4.toArray⟩, .int .i64 m_5, .string ⟨m_6.toArray⟩, .slice m_7 m_8 m_9, .slice m_a m_b m_c] W9) ⟨ht.set8z HF.out.ge _ _ _ _ _ _ _ _, HF.out.set (.int .i64 m_1) (.bool m_2) (.bool m_3) (.string ⟨m_4.toArray⟩) (.int .i64 m_5) (.string ⟨m_6.toArray⟩) (.slice m_7 m_8 m_9) (.slice m_a m_b m_c)⟩ ?_
          rintro x5 ⟨ht1, hfin⟩
          have HFIN := Lib.hid hfin
          clear hfin z0 z1 z2 z3 z4 z5 z6 z7 zf zl HF
          refine hK.out _ _ ht1 (fun ht => ?_)
          clear hK K ht1
          try simp only [Act.put, List.setIfInBounds_toArray, List.set_cons_zero, List.set_cons_succ]
          refine wpAnyH_take (i := 11) (oi := ⟨some _, _, _, _, _, _⟩) (v := (.int .i64 c2)) rfl (by kernel_rfl) (by kernel_rfl) (by kernel_rfl) (fun _ _ _ h => h) (Or.inl ⟨by rfl, ?_⟩) ht ?_
          · intro W9 hSw
            go_simp
          try simp only [Act.put, List.setIfInBounds_toArray, List.set_cons_zero, List.set_cons_succ]
          refine wpAnyH_done (by kernel_rfl) ?_ _
          have HX5 := Lib.hid ht.box
          clear ht
          go_wp2_with fail
          go_meet
          case rel => exact ⟨gZ, c2, zv, m_1, m_2, m_3, m_4, m_5, m_6, m_7, m_8, m_9, m_a, m_b, m_c, rfl, rfl, HX5.out, HFIN.out, HR2.out⟩
      case rest =>
      obtain ⟨gZ, c2, zv, m_1, m_2, m_3, m_4, m_5, m_6, m_7, m_8, m_9, m_a, m_b, m_c, rfl, rfl, hbox, hfr, hr2⟩ := hcut
      have HB := Lib.hid hbox
      have hIN := In.keep (on_sub (S' := Off9 w S) fun b k => k.1) _ _ hfr.z
      have HZ := Lib.hid hIN
      have HK := Lib.hid hfr.blk
      have hs5 := hbox.size
      have hall := on_all wc (Off9 w S)
      have hge := hfr.ge.1
      clear hbox hfr HG0 HU HC HDO hgl hs0
      rcases hr2 with ⟨rfl, hd⟩ | ⟨h1, h2, hd, rfl⟩
      · obtain ⟨hzn, hzs⟩ := HDN.out _ hd
        have HDO := Lib.hid hd
        have HSZ := Lib.hid (fun W (hb : Below wc.heap.size wc W) => refSize_any zv (.agg #[.int .i64 m_1, .bool m_2, .bool m_3, .string ⟨m_4.toArray⟩, .int .i64 m_5, .string ⟨m_6.toArray⟩, .slice m_7 m_8 m_9, .slice m_a m_b m_c]) W (In.keep (hall.trans (le_below hb)) _ _ HZ.out) (by omega))
        have HDP := Lib.hid (fun W (hb : Below wc.heap.size wc W) => refDepth_any zv (.agg #[.int .i64 m_1, .bool m_2, .bool m_3, .string ⟨m_4.toArray⟩, .int .i64 m_5, .string ⟨m_6.toArray⟩, .slice m_7 m_8 m_9, .slice m_a m_b m_c]) W (In.keep (hall.trans (le_below hb)) _ _ HZ.out) (by have := levels_size zv; omega))
        clear hd HDN
        obtain ⟨b0, b1, b2, b3, b4, b5, b6, b7⟩ := HK.out.eight
        go_wp2_with fail
        refine (HSZ.out _ (Below.refl _ _)).mono ?_
        rintro e6 w6 ⟨rfl, hb6⟩
        have HB6 := Lib.hid (HB.out.on hb6)
        have HK6 := Lib.hid (HK.out.on hb6)
        have HBB6 := Lib.hid hb6
        clear hb6 HK b0 b1 b2 b3 b4 b5 b6 b7
        by_cases hbig : 3000 < zv.size
        · have hd1 : decide ((3000 : Int) < (zv.size : Int)) = true := by simp; omega
          have HF := Lib.hid ((HST.out zv).2 _ (done_big HDO.out hbig))
          clear hbig hzs HSZ HDP
          obtain ⟨z0, z1, z2, z3, z4, z5, z6, z7⟩ := HB6.out.r.eight
          have zf := HB6.out.r.frozen
          have zl := HB6.out.r.lt
          go_wp2_with fail
          refine bodyPost_ret (results_row3 (l := [_, _, _, _, _, _, _, _]) rfl _ _ _ rfl (HB6.out.r.set8 _ _ _ _ _ _ _ _) Tryz.underlying28 rfl (by kernel_rfl)) rfl ?_
          exact HB6.out.bad (c := 5) HF.out (by omega) (by omega)
        · have hd1 : decide ((3000 : Int) < (zv.size : Int)) = false := by simp; omega
          have HDP6 := Lib.hid (HDP.out _ HBB6.out)
          clear HDP HSZ
          obtain ⟨b0, b1, b2, b3, b4, b5, b6, b7⟩ := HK6.out.eight
          go_wp2_with fail
          refine HDP6.out.mono ?_
          rintro e7 w7 ⟨rfl, hb7⟩
          have HB7 := Lib.hid (HB6.out.on hb7)
          have HK7 := Lib.hid (HK6.out.on hb7)
          have HBB7 := Lib.hid (HBB6.out.trans (hb7.mono HBB6.out.size))
          clear hb7 HK6 HB6 HBB6 HDP6 b0 b1 b2 b3 b4 b5 b6 b7
          by_cases hdeep : 32 < zv.depth
          · have hd2 : decide ((32 : Int) < (zv.depth : Int)) = true := by simp; omega
            have HF := Lib.hid ((HST.out zv).2 _ (done_deep HDO.out hbig hdeep))
            clear hdeep hbig hzs
            obtain ⟨z0, z1, z2, z3, z4, z5, z6, z7⟩ := HB7.out.r.eight
            have zf := HB7.out.r.frozen
            have zl := HB7.out.r.lt
            go_wp2_with fail
            refine bodyPost_ret (results_row3 (l := [_, _, _, _, _, _, _, _]) rfl _ _ _ rfl (HB7.out.r.set8 _ _ _ _ _ _ _ _) Tryz.underlying28 rfl (by kernel_rfl)) rfl ?_
            exact HB7.out.bad (c := 3) HF.out (by omega) (by omega)
          · have hd2 : decide ((32 : Int) < (zv.depth : Int)) = false := by simp; omega
            have HF := Lib.hid ((HST.out zv).1 (Ap.done_ok HDO.out (by omega) (by omega)))
            obtain ⟨b0, b1, b2, b3, b4, b5, b6, b7⟩ := HK7.out.eight
            obtain ⟨a0, a1, a2, a3, a4, a5, a6, a7⟩ := HB7.out.v.eight
            have af := HB7.out.v.frozen
            have al := HB7.out.v.lt
            have HBN := Lib.hid (HB7.out.setv (.int .i64 m_1) (.bool m_2) (.bool m_3) (.string ⟨m_4.toArray⟩) (.int .i64 m_5) (.string ⟨m_6.toArray⟩) (.slice m_7 m_8 m_9) (.slice m_a m_b m_c))
            have HZN := Lib.hid (In.keep (HB7.out.leV (.int .i64 m_1) (.bool m_2) (.bool m_3) (.string ⟨m_4.toArray⟩) (.int .i64 m_5) (.string ⟨m_6.toArray⟩) (.slice m_7 m_8 m_9) (.slice m_a m_b m_c)) _ _ (In.keep (on_keep (S' := Off9 w S) (fun _ k _ => k) (fun b _ h2 => HBB7.out.block b h2)) _ _ HZ.out))
            go_wp2_with fail
            go_roundw
            case rel => exact ⟨j + 1, _, _, by go_num, by omega, HBN.out, HZN.out, hzn, by omega, HF.out⟩
            case measure => simp [intOf]; omega
      · have HF := Lib.hid ((HST.out Ps.mkN).2 _ (done_bad hd))
        have hcd : ((c2 : Int) == 0) = false := by rw [beq_eq_false_iff_ne]; omega
        have hcd' : ((c2 : Int) != 0) = true := by simp; omega
        clear hd HST HDN
        obtain ⟨z0, z1, z2, z3, z4, z5, z6, z7⟩ := HB.out.r.eight
        have zf := HB.out.r.frozen
        have zl := HB.out.r.lt
        go_wp2_with fail
        refine bodyPost_ret (results_row3 (l := [_, _, _, _, _, _, _, _]) rfl _ _ _ rfl (HB.out.r.set8 _ _ _ _ _ _ _ _) Tryz.underlying28 rfl (by kernel_rfl)) rfl ?_
        exact HB.out.bad HF.out h1 h2
    · obtain rfl : j = l.length := by omega
      have HF := Lib.hid (apply_end HAP.out)
      obtain ⟨a0, a1, a2, a3, a4, a5, a6, a7⟩ := HG0.out.box.v.eight
      obtain ⟨z0, z1, z2, z3, z4, z5, z6, z7⟩ := HG0.out.box.r.eight
      have zf := HG0.out.box.r.frozen
      have zl := HG0.out.box.r.lt
      go_wp2_with fail
      refine bodyPost_ret (results_row3 (l := [_, _, _, _, _, _, _, _]) rfl _ _ _ rfl (HG0.out.box.r.set8 _ _ _ _ _ _ _ _) Tryz.underlying28 rfl (by kernel_rfl)) rfl ?_
      exact HG0.out.box.ok HF.out HU.out

end Go.Proofs.YtjjenpmahmbafaaGreatDoor

