/- Bc: Bb Bc, in one text. -/
import Derived.Test.YtjjenpmahmbafaaGreatDoorBa
import Derived.Test.YtjjenpmahmbafaaGreatDoorAb
import Derived.Test.YtjjenpmahmbafaaGreatDoorJl
import Derived.Test.YtjjenpmahmbafaaGreatDoorPw
import Derived.Test.YtjjenpmahmbafaaGreatDoorRg
import Derived.StillTailTactics
namespace Go.Proofs.YtjjenpmahmbafaaGreatDoor
open Go.RowKit Pt Js Oq

theorem Strs.take {c : Cl} {A : Option Addr} {l : List (List UInt8)} (h : Strs c A l) (k : Nat) : Strs c A (l.take k) := fun i n hi => by
  have hil := (List.getElem?_eq_some_iff.1 hi).1
  rw [List.getElem?_take_of_lt (by rw [List.length_take] at hil; omega)] at hi
  exact h i n hi
theorem sameNames_any (l m : List (List UInt8)) (A B : Option Addr) (e d : Nat) (w : World) (hs : Strs w.cell? A l) (ht : Strs w.cell? B m) (he : l.length ≤ e) (he2 : e ≤ maxLen) (hd : m.length ≤ d) (hd2 : d ≤ maxLen) (h1 : (text l).length ≤ 100000) (h2 : (text m).length ≤ 100000) :
    Calls Tryz.prog 44 #[.slice A l.length e, .slice B m.length d] w fun e w' => e = .returned (.bool (decide (l = m))) ∧ Below w.heap.size w w' := by
  have HP1 := Lib.hid (refPath_any l A e w hs he he2 (by omega))
  have HP2 := Lib.hid (fun W (h : Below w.heap.size w W) => refPath_any m B d W (ht.keep (le_below h)) hd hd2 (by omega))
  have HQ := Lib.hid (show (text l == text m) = decide (l = m) by
    by_cases h : l = m
    · subst h; simp
    · have h3 : text l ≠ text m := fun e => h (Ap.text_inj e)
      simp [h, h3])
  clear hs ht
  go_enter Tryz.func44, Tryz.ntmps44
  go_wp2_with fail
  refine HP1.out.mono ?_
  rintro e1 w1 ⟨rfl, hb1⟩
  have HB1 := Lib.hid hb1
  have HP3 := Lib.hid (HP2.out _ hb1)
  clear hb1
  go_wp2_with fail
  refine HP3.out.mono ?_
  rintro e2 w2 ⟨rfl, hb2⟩
  have HB2 := Lib.hid (HB1.out.trans (hb2.mono HB1.out.size))
  clear hb2
  go_wp2_with fail
  go_ret
  exact ⟨by rw [← HQ.out]; rfl, HB2.out⟩

theorem OIn.form4 {c : Cl} {q : Nat} {p f : List (List UInt8)} {u : Vl} {x : Value} (hx : (Opn.mk q p f u).In c x) :
    ∃ (A : Option Addr) (e : Nat) (F : Option Addr) (d : Nat) (k : Int) (b neg : Bool) (dg : List UInt8) (ex : Int) (s : List UInt8) (A1 : Option Addr) (l1 p1 : Nat) (B1 : Option Addr) (m1 d1 : Nat),
      x = opV q A p.length e F f.length d k b neg dg ex s (.slice A1 l1 p1) (.slice B1 m1 d1) ∧ Strs c A p ∧ p.length ≤ e ∧ e ≤ maxLen ∧ Strs c F f ∧ f.length ≤ d ∧ d ≤ maxLen ∧
      u.In c (vlV k b neg dg ex s (.slice A1 l1 p1) (.slice B1 m1 d1)) := hx

structure Do9 (w : World) (S : Nat → Prop) (V O : Array Value) (wr : World) : Prop where
  v : Blk wr w.heap.size 28 V
  o : Blk wr (w.heap.size + 1) 52 O
  r : Blk wr (w.heap.size + 2) 28 zeroC
  below : Below w.heap.size w wr
  hS : ∀ b, S b → b < w.heap.size
section
variable {w wr w' : World} {S : Nat → Prop} {V O : Array Value}
theorem Do9.on (h : Do9 w S V O wr) (hb : Below wr.heap.size wr w') : Do9 w S V O w' := ⟨h.v.on hb, h.o.on hb, h.r.on hb, h.below.trans (hb.mono h.below.size), h.hS⟩
theorem Do9.drew (h : Do9 w S V O wr) : Do9 w S V O wr.drew := ⟨h.v, h.o, h.r, h.below.drew, h.hS⟩
theorem Do9.size (h : Do9 w S V O wr) : w.heap.size + 3 ≤ wr.heap.size := h.r.lt
theorem Do9.leV (h : Do9 w S V O wr) : Cl.le (w.on S) (wr.on S) := on_keep (fun _ h _ => h) (fun b _ h2 => h.below.block b h2)
theorem Do9.leFin (h : Do9 w S V O wr) {B : Nat} (hB : w.heap.size + 3 ≤ B) (v0 v1 v2 v3 v4 v5 v6 v7 : Value) : Cl.le (wr.on fun b => S b ∨ B ≤ b) ((set8 wr (w.heap.size + 2) v0 v1 v2 v3 v4 v5 v6 v7).on fun b => S b ∨ w.heap.size ≤ b) :=
  on_keep (fun b hb _ => hb.imp id (fun k => by omega)) (fun b hb _ => heap_set8 _ _ _ (by rcases hb with k | k; have := h.hS b k; omega; omega) _ _ _ _ _ _ _ _)
theorem Do9.belowFin (h : Do9 w S V O wr) (v0 v1 v2 v3 v4 v5 v6 v7 : Value) : Below w.heap.size w (set8 wr (w.heap.size + 2) v0 v1 v2 v3 v4 v5 v6 v7) := below_set8 h.below (by omega) _ _ _ _ _ _ _ _
theorem Do9.bad (h : Do9 w S V O wr) {r : Ed.Ch} {c : Nat} (hr : r = .bad c) (h1 : 0 < c) (h2 : c ≤ 14) :
    EditPost S r w (.returned (.tuple #[.agg zeroC, .int .i64 c])) (set8 wr (w.heap.size + 2) (.int .i64 0) (.bool false) (.bool false) (.string ⟨#[]⟩) (.int .i64 0) (.string ⟨#[]⟩) (.slice none 0 0) (.slice none 0 0)) :=
  ⟨h.belowFin _ _ _ _ _ _ _ _, .inr ⟨c, _, hr, h1, h2, rfl, leaf_in _ 0 false Nm.Num.zero []⟩⟩
end
theorem GetPost.parts9 {c : Cl} {r : Option Vl} {w w' : World} {e : Ending} (h : GetPost c r w e w') :
    ∃ y : Value, e = .returned (.tuple #[y, .bool r.isSome]) ∧ (r.getD Ps.mkN).In c y ∧ Below w.heap.size w w' := by
  obtain ⟨hb, ⟨u, y, rfl, rfl, h⟩ | ⟨rfl, y, rfl, h⟩⟩ := h
  · exact ⟨y, rfl, h, hb⟩
  · exact ⟨y, rfl, h, hb⟩

end Go.Proofs.YtjjenpmahmbafaaGreatDoor

namespace Go.Proofs.YtjjenpmahmbafaaGreatDoor
open Go.RowKit Pt Js Oq

theorem EditPost.parts9 {S : Nat → Prop} {r : Ed.Ch} {w w' : World} {e : Ending} (h : EditPost S r w e w') : ∃ (y : Value) (c : Nat) (z : Vl), e = .returned (.tuple #[y, .int .i64 c]) ∧ z.In (w'.on fun b => S b ∨ w.heap.size ≤ b) y ∧ Below w.heap.size w w' ∧ ((c = 0 ∧ r = .ok z) ∨ (0 < c ∧ c ≤ 14 ∧ r = .bad c ∧ z = Ps.mkN)) := by
  obtain ⟨hb, ⟨u, y, rfl, rfl, h⟩ | ⟨c, y, rfl, h1, h2, rfl, h⟩⟩ := h
  · exact ⟨y, 0, u, rfl, h, hb, .inl ⟨rfl, rfl⟩⟩
  · exact ⟨y, c, _, rfl, h, hb, .inr ⟨h1, h2, rfl, rfl⟩⟩
theorem Do9.edit {w wr : World} {S : Nat → Prop} {V O : Array Value} (h : Do9 w S V O wr) {B : Nat} (hB : w.heap.size + 3 ≤ B) {r : Ed.Ch} {c : Nat} {z : Vl} {j_1 : Int} {j_2 j_3 : Bool} {j_4 : List UInt8} {j_5 : Int} {j_6 : List UInt8} {j_7 : Option Addr} {j_8 j_9 : Nat} {j_a : Option Addr} {j_b j_c : Nat} (hz : z.In (wr.on fun b => S b ∨ B ≤ b) (.agg #[.int .i64 j_1, .bool j_2, .bool j_3, .string ⟨j_4.toArray⟩, .int .i64 j_5, .string ⟨j_6.toArray⟩, .slice j_7 j_8 j_9, .slice j_a j_b j_c])) (hr : (c = 0 ∧ r = .ok z) ∨ (0 < c ∧ c ≤ 14 ∧ r = .bad c ∧ z = Ps.mkN)) :
    EditPost S r w (.returned (.tuple #[.agg #[.int .i64 j_1, .bool j_2, .bool j_3, .string ⟨j_4.toArray⟩, .int .i64 j_5, .string ⟨j_6.toArray⟩, .slice j_7 j_8 j_9, .slice j_a j_b j_c], .int .i64 c])) (set8 wr (w.heap.size + 2) (.int .i64 j_1) (.bool j_2) (.bool j_3) (.string ⟨j_4.toArray⟩) (.int .i64 j_5) (.string ⟨j_6.toArray⟩) (.slice j_7 j_8 j_9) (.slice j_a j_b j_c)) := by
  have hi := In.keep (h.leFin hB (.int .i64 j_1) (.bool j_2) (.bool j_3) (.string ⟨j_4.toArray⟩) (.int .i64 j_5) (.string ⟨j_6.toArray⟩) (.slice j_7 j_8 j_9) (.slice j_a j_b j_c)) _ _ hz
  rcases hr with ⟨rfl, hr⟩ | ⟨h1, h2, hr, rfl⟩
  · exact ⟨h.belowFin _ _ _ _ _ _ _ _, .inl ⟨z, _, hr, rfl, hi⟩⟩
  · exact ⟨h.belowFin _ _ _ _ _ _ _ _, .inr ⟨c, _, hr, h1, h2, rfl, hi⟩⟩
theorem Do9.old {w wr : World} {S : Nat → Prop} {V O : Array Value} (h : Do9 w S V O wr) {r : Ed.Ch} {z : Vl} {j_1 : Int} {j_2 j_3 : Bool} {j_4 : List UInt8} {j_5 : Int} {j_6 : List UInt8} {j_7 : Option Addr} {j_8 j_9 : Nat} {j_a : Option Addr} {j_b j_c : Nat} (hz : z.In (w.on S) (.agg #[.int .i64 j_1, .bool j_2, .bool j_3, .string ⟨j_4.toArray⟩, .int .i64 j_5, .string ⟨j_6.toArray⟩, .slice j_7 j_8 j_9, .slice j_a j_b j_c])) (hr : r = .ok z) :
    EditPost S r w (.returned (.tuple #[.agg #[.int .i64 j_1, .bool j_2, .bool j_3, .string ⟨j_4.toArray⟩, .int .i64 j_5, .string ⟨j_6.toArray⟩, .slice j_7 j_8 j_9, .slice j_a j_b j_c], .int .i64 0])) (set8 wr (w.heap.size + 2) (.int .i64 j_1) (.bool j_2) (.bool j_3) (.string ⟨j_4.toArray⟩) (.int .i64 j_5) (.string ⟨j_6.toArray⟩) (.slice j_7 j_8 j_9) (.slice j_a j_b j_c)) :=
  ⟨h.belowFin _ _ _ _ _ _ _ _, .inl ⟨z, _, hr, rfl, In.keep ((h.leV.trans (on_sub fun _ k => .inl k)).trans (h.leFin (Nat.le_refl _) (.int .i64 j_1) (.bool j_2) (.bool j_3) (.string ⟨j_4.toArray⟩) (.int .i64 j_5) (.string ⟨j_6.toArray⟩) (.slice j_7 j_8 j_9) (.slice j_a j_b j_c))) _ _ hz⟩⟩
theorem Do9.setv {w wr : World} {S : Nat → Prop} {c0 c1 c2 c3 c4 c5 c6 c7 : Value} {O : Array Value} (h : Do9 w S #[c0, c1, c2, c3, c4, c5, c6, c7] O wr) (v0 v1 v2 v3 v4 v5 v6 v7 : Value) : Do9 w S #[v0, v1, v2, v3, v4, v5, v6, v7] O (set8 wr w.heap.size v0 v1 v2 v3 v4 v5 v6 v7) :=
  ⟨h.v.set8 _ _ _ _ _ _ _ _, h.o.set8o (by omega) _ _ _ _ _ _ _ _, h.r.set8o (by omega) _ _ _ _ _ _ _ _, below_set8 h.below (Nat.le_refl _) _ _ _ _ _ _ _ _, h.hS⟩
theorem Do9.leSetv {w wr : World} {S : Nat → Prop} {V O : Array Value} (h : Do9 w S V O wr) {B : Nat} (hB : w.heap.size + 3 ≤ B) (v0 v1 v2 v3 v4 v5 v6 v7 : Value) : Cl.le (wr.on fun b => S b ∨ B ≤ b) ((set8 wr w.heap.size v0 v1 v2 v3 v4 v5 v6 v7).on fun b => S b ∨ w.heap.size + 3 ≤ b) :=
  on_keep (fun b hb _ => hb.imp id (fun k => by omega)) (fun b hb _ => heap_set8 _ _ _ (by rcases hb with k | k; have := h.hS b k; omega; omega) _ _ _ _ _ _ _ _)
section
variable {v u : Vl} {q : Nat} {p f : List (List UInt8)}
theorem doOp_into (h3 : ¬ q ≤ 3) (h : q = 4 ∧ f.length < p.length ∧ p.take f.length = f) : Ap.doOp v ⟨q, p, f, u⟩ = .bad 9 := by
  unfold Ap.doOp; simp only; rw [if_neg h3, if_pos h]
theorem doOp_none (h3 : ¬ q ≤ 3) (h : ¬ (q = 4 ∧ f.length < p.length ∧ p.take f.length = f)) (hg : get v (if q = 6 then p else f) = none) : Ap.doOp v ⟨q, p, f, u⟩ = .bad 6 := by
  unfold Ap.doOp; simp only; rw [if_neg h3, if_neg h, hg]
theorem doOp_test {x : Vl} (hq : q = 6) (hg : get v p = some x) : Ap.doOp v ⟨q, p, f, u⟩ = if x.same u = true then .ok v else .bad 8 := by
  subst hq
  unfold Ap.doOp; simp only; rw [if_neg (by decide), if_neg (by simp)]; simp only [if_true, hg]
theorem doOp_stay {x : Vl} (hq : q = 4) (hpf : p = f) (hg : get v f = some x) : Ap.doOp v ⟨q, p, f, u⟩ = .ok v := by
  subst hq hpf
  unfold Ap.doOp; simp [hg]
theorem doOp_move {x : Vl} (hq : q = 4) (hpf : ¬ p = f) (h : ¬ (q = 4 ∧ f.length < p.length ∧ p.take f.length = f)) (hg : get v f = some x) : Ap.doOp v ⟨q, p, f, u⟩ = match Ed.edit 2 f v Ps.mkN with
    | .ok r => Ed.edit 1 p r x
    | .bad c => .bad c := by
  subst hq
  have h' : ¬ (f.length < p.length ∧ p.take f.length = f) := fun k => h ⟨rfl, k⟩
  unfold Ap.doOp; simp [hg, hpf, h']
  cases Ed.edit 2 f v Ps.mkN <;> rfl
theorem doOp_copy {x : Vl} (hq : q = 5) (hg : get v f = some x) : Ap.doOp v ⟨q, p, f, u⟩ = Ed.edit 1 p v x := by
  subst hq
  unfold Ap.doOp; simp [hg]
end

set_option linter.unusedVariables false in
set_option linter.unusedSimpArgs false in
set_option maxRecDepth 100000 in
set_option maxHeartbeats 8000000 in
theorem refDo_any (S : Nat → Prop) (v : Vl) (o : Opn) (xv xo : Value) (w : World) (hS : ∀ b, S b → b < w.heap.size) (hne : Ed.neat v = true) (hsz : v.size ≤ 3000) (ho : Ap.OpFit o) (hx : v.In (w.on S) xv) (hxo : o.In (w.on S) xo) :
    Calls Tryz.prog 21 #[xv, xo] w (EditPost S (Ap.doOp v o) w) := by
  obtain ⟨q, p, f, u⟩ := o
  obtain ⟨⟨hq1, hq6⟩, hun, hus, hpt, hft⟩ := ho
  simp only at hq1 hq6 hun hus hpt hft
  obtain ⟨k_1, k_2, k_3, k_4, k_5, k_6, k_7, k_8, k_9, k_a, k_b, k_c, rfl⟩ := In.cells hx
  obtain ⟨P1, pe, F1, fe, x_1, x_2, x_3, x_4, x_5, x_6, x_7, x_8, x_9, x_a, x_b, x_c, rfl, hP, hpe, hpm, hF, hfe, hfm, hU⟩ := OIn.form4 hxo
  obtain ⟨hpn, hpl⟩ := Ap.name_small hpt
  obtain ⟨hfn, hfl⟩ := Ap.name_small hft
  have HX := Lib.hid hx
  have HU := Lib.hid hU
  have HP := Lib.hid hP
  have HF := Lib.hid hF
  have HPN := Lib.hid hpn
  have HFN := Lib.hid hfn
  have HNE := Lib.hid hne
  have HUN := Lib.hid hun
  have HE0 := Lib.hid (show Do9 w S #[.int .i64 k_1, .bool k_2, .bool k_3, .string ⟨k_4.toArray⟩, .int .i64 k_5, .string ⟨k_6.toArray⟩, .slice k_7 k_8 k_9, .slice k_a k_b k_c] #[.int .i64 q, .slice P1 p.length pe, .slice F1 f.length fe, .int .i64 x_1, .bool x_2, .bool x_3, .string ⟨x_4.toArray⟩, .int .i64 x_5, .string ⟨x_6.toArray⟩, .slice x_7 x_8 x_9, .slice x_a x_b x_c] (((w.alloc (.cells #[.int .i64 k_1, .bool k_2, .bool k_3, .string ⟨k_4.toArray⟩, .int .i64 k_5, .string ⟨k_6.toArray⟩, .slice k_7 k_8 k_9, .slice k_a k_b k_c] 28)).alloc (.cells #[.int .i64 q, .slice P1 p.length pe, .slice F1 f.length fe, .int .i64 x_1, .bool x_2, .bool x_3, .string ⟨x_4.toArray⟩, .int .i64 x_5, .string ⟨x_6.toArray⟩, .slice x_7 x_8 x_9, .slice x_a x_b x_c] 52)).alloc (.cells zeroC 28)) from
    ⟨((Blk.new w 28 #[.int .i64 k_1, .bool k_2, .bool k_3, .string ⟨k_4.toArray⟩, .int .i64 k_5, .string ⟨k_6.toArray⟩, .slice k_7 k_8 k_9, .slice k_a k_b k_c]).alloc _).alloc _, (Blk.new2 w (.cells #[.int .i64 k_1, .bool k_2, .bool k_3, .string ⟨k_4.toArray⟩, .int .i64 k_5, .string ⟨k_6.toArray⟩, .slice k_7 k_8 k_9, .slice k_a k_b k_c] 28) 52 _).alloc _, Blk.new3 _ _ _ _ _, below_three _ _ _ _, hS⟩)
  unfold maxLen at hpm hfm
  clear hx hxo hP hF hU hpn hfn hne hun
  go_enter Tryz.func21, Tryz.ntmps21
  go_upto_region 1 with (fail)
  generalize ((w.alloc (.cells #[.int .i64 k_1, .bool k_2, .bool k_3, .string ⟨k_4.toArray⟩, .int .i64 k_5, .string ⟨k_6.toArray⟩, .slice k_7 k_8 k_9, .slice k_a k_b k_c] 28)).alloc (.cells #[.int .i64 q, .slice P1 p.length pe, .slice F1 f.length fe, .int .i64 x_1, .bool x_2, .bool x_3, .string ⟨x_4.toArray⟩, .int .i64 x_5, .string ⟨x_6.toArray⟩, .slice x_7 x_8 x_9, .slice x_a x_b x_c] 52)).alloc (.cells zeroC 28) = w0 at *
  obtain ⟨a0, a1, a2, a3, a4, a5, a6, a7⟩ := HE0.out.v.eight
  obtain ⟨o0, o1, o2, o3, o4, o5, o6, o7, o8, o9, o10⟩ := HE0.out.o.eleven
  by_cases hq3 : q ≤ 3
  · -- add, remove, replace
    have hqb : decide ((q : Int) ≤ 3) = true := by simp; omega
    have HD := Lib.hid (show Ap.doOp v ⟨q, p, f, u⟩ = Ed.edit q p v u from if_pos hq3)
    have hs0 := HE0.out.size
    have HED := Lib.hid (refEdit_any q (by omega) p S v u _ _ P1 pe w0 (fun b hb => by have := HE0.out.hS b hb; omega) (In.keep HE0.out.leV _ _ HX.out) (In.keep HE0.out.leV _ _ HU.out) (HP.out.keep ((on_all _ _).trans (le_below HE0.out.below))) hpe (by unfold maxLen; omega) HPN.out HNE.out (by omega))
    clear hq3
    go_wp2_with fail
    refine HED.out.mono ?_
    intro e1 w1 h1
    obtain ⟨y1, c1, z1, rfl, hz1, hb1, hr1⟩ := h1.parts9
    obtain ⟨j_1, j_2, j_3, j_4, j_5, j_6, j_7, j_8, j_9, j_a, j_b, j_c, rfl⟩ := In.cells hz1
    have HE1 := Lib.hid (HE0.out.on hb1)
    have HZ1 := Lib.hid hz1
    have HR1 := Lib.hid hr1
    clear h1 hz1 hb1 hr1 HED a0 a1 a2 a3 a4 a5 a6 a7 o0 o1 o2 o3 o4 o5 o6 o7 o8 o9 o10
    obtain ⟨z0, z1', z2, z3, z4, z5, z6, z7⟩ := HE1.out.r.eight
    have zf := HE1.out.r.frozen
    have zl := HE1.out.r.lt
    go_wp2_with fail
    refine bodyPost_ret (results_row (l := [_, _, _, _, _, _, _, _]) rfl _ _ _ rfl (HE1.out.r.set8 _ _ _ _ _ _ _ _) Tryz.underlying28 rfl (by kernel_rfl)) rfl ?_
    rw [HD.out]
    exact HE1.out.edit hs0 HZ1.out HR1.out
  have hqb : decide ((q : Int) ≤ 3) = false := by simp; omega
  have HQ3 := Lib.hid hq3
  have hs0 := HE0.out.size
  obtain ⟨cb, hcb⟩ : ∃ cb, decide (q = 4 ∧ f.length < p.length) = cb := ⟨_, rfl⟩
  have HCB := Lib.hid hcb
  clear hcb hq3
  go_upto_region 3 with (fail)
  go_cut [38] from 29 to 29 (fun v38 wc => v38 = .bool cb ∧ wc = w0)
  case first =>
    by_cases h4 : q = 4
    · have hb4 : ((q : Int) == 4) = true := by rw [h4]; rfl
      by_cases hlt : f.length < p.length
      · have hd : decide ((f.length : Int) < (p.length : Int)) = true := by simp; omega
        have hd' : decide (f.length < p.length) = true := by simp; omega
        have HC := Lib.hid (show cb = true by rw [← HCB.out]; simp [h4, hlt])
        clear h4 hlt
        go_wp2_with fail
        go_meet
        case rel => exact ⟨by rw [HC.out], rfl⟩
      · have hd : decide ((f.length : Int) < (p.length : Int)) = false := by simp; omega
        have hd' : decide (f.length < p.length) = false := by simp; omega
        have HC := Lib.hid (show cb = false by rw [← HCB.out]; simp [h4]; omega)
        clear h4 hlt
        go_wp2_with fail
        go_meet
        case rel => exact ⟨by rw [HC.out], rfl⟩
    · have hb4 : ((q : Int) == 4) = false := by rw [beq_eq_false_iff_ne]; omega
      have HC := Lib.hid (show cb = false by rw [← HCB.out]; simp [h4])
      clear h4
      go_wp2_with fail
      go_meet
      case rel => exact ⟨by rw [HC.out], rfl⟩
  case rest =>
  obtain ⟨rfl, rfl⟩ := hcut
  obtain ⟨wk, hwk⟩ : ∃ W, W = wc := ⟨_, rfl⟩
  subst hwk
  go_upto_if 38 with (fail)
  go_cut [5] from 38 to 38 (fun v5 wc => v5 = .int .i64 0 ∧ Do9 w S #[.int .i64 k_1, .bool k_2, .bool k_3, .string ⟨k_4.toArray⟩, .int .i64 k_5, .string ⟨k_6.toArray⟩, .slice k_7 k_8 k_9, .slice k_a k_b k_c] #[.int .i64 q, .slice P1 p.length pe, .slice F1 f.length fe, .int .i64 x_1, .bool x_2, .bool x_3, .string ⟨x_4.toArray⟩, .int .i64 x_5, .string ⟨x_6.toArray⟩, .slice x_7 x_8 x_9, .slice x_a x_b x_c] wc ∧ ¬ (q = 4 ∧ f.length < p.length ∧ p.take f.length = f))
  case first =>
    cases cb with
    | false =>
      have HNC := Lib.hid (show ¬ (q = 4 ∧ f.length < p.length ∧ p.take f.length = f) from fun h => by have := of_decide_eq_false HCB.out; exact this ⟨h.1, h.2.1⟩)
      go_wp2_with fail
      go_meet
      case rel => exact ⟨rfl, HE0.out, HNC.out⟩
    | true =>
      obtain ⟨h4, hlt⟩ := of_decide_eq_true HCB.out
      have htl : (p.take f.length).length = f.length := by rw [List.length_take]; omega
      have hsn := sameNames_any (p.take f.length) f P1 F1 pe fe wk.drew ((HP.out.keep ((on_all _ _).trans (le_below HE0.out.below))).take _) (HF.out.keep ((on_all _ _).trans (le_below HE0.out.below))) (by omega) (by unfold maxLen; omega) hfe (by unfold maxLen; omega) (by have := Ap.text_take_le p f.length; omega) hft
      rw [htl] at hsn
      have HSN := Lib.hid hsn
      have hle1 : (f.length : Int) ≤ (pe : Int) := by omega
      have HIN := Lib.hid (fun h => doOp_into (v := v) (u := u) HQ3.out (And.intro h4 (And.intro hlt h)))
      clear hsn htl h4
      go_upto_region 4 with (fail)
      go_still_tail 8, (by kernel_rfl)
      go_wp2_with fail
      refine HSN.out.mono ?_
      rintro e1 w1 ⟨rfl, hb1⟩
      have HE1 := Lib.hid (HE0.out.drew.on hb1)
      clear hb1 a0 a1 a2 a3 a4 a5 a6 a7 o0 o1 o2 o3 o4 o5 o6 o7 o8 o9 o10
      obtain ⟨z0, z1, z2, z3, z4, z5, z6, z7⟩ := HE1.out.r.eight
      have zf := HE1.out.r.frozen
      have zl := HE1.out.r.lt
      by_cases htk : p.take f.length = f
      · have hd : decide (p.take f.length = f) = true := decide_eq_true htk
        have HB := Lib.hid (HIN.out htk)
        clear htk
        go_wp2_with fail
        refine bodyPost_ret (results_row (l := [_, _, _, _, _, _, _, _]) rfl _ _ _ rfl (HE1.out.r.set8 _ _ _ _ _ _ _ _) Tryz.underlying28 rfl (by kernel_rfl)) rfl ?_
        exact HE1.out.bad (c := 9) HB.out (by omega) (by omega)
      · have hd : decide (p.take f.length = f) = false := decide_eq_false htk
        have HNC := Lib.hid (show ¬ (q = 4 ∧ f.length < p.length ∧ p.take f.length = f) from fun h => htk h.2.2)
        clear htk
        go_wp2_with fail
        go_meet
        case rel => exact ⟨rfl, HE1.out, HNC.out⟩
  case rest =>
  obtain ⟨rfl, hE1, hnc⟩ := hcut
  obtain ⟨w1, hw1⟩ : ∃ W, W = wc := ⟨_, rfl⟩
  subst hw1
  have HE1 := Lib.hid hE1
  have HNC := Lib.hid hnc
  clear hE1 hnc HE0 HCB a0 a1 a2 a3 a4 a5 a6 a7 o0 o1 o2 o3 o4 o5 o6 o7 o8 o9 o10
  obtain ⟨a0, a1, a2, a3, a4, a5, a6, a7⟩ := HE1.out.v.eight
  obtain ⟨o0, o1, o2, o3, o4, o5, o6, o7, o8, o9, o10⟩ := HE1.out.o.eleven
  have hcl := (on_all w S).trans (le_below HE1.out.below)
  by_cases h6 : q = 6
  · -- test
    have hb6 : ((q : Int) == 6) = true := by rw [h6]; rfl
    have HG := Lib.hid (refGet_any p (w.on S) v _ P1 pe w1 hcl HX.out (HP.out.keep hcl) hpe (by unfold maxLen; omega) HPN.out (by omega))
    obtain ⟨r, hr⟩ : ∃ r, get v p = r := ⟨_, rfl⟩
    have HR := Lib.hid hr
    rw [hr] at HG
    have HQ6 := Lib.hid h6
    clear hr hcl h6
    go_wp2_with fail
    refine HG.out.mono ?_
    intro e2 w2 h2
    obtain ⟨y2, rfl, hy2, hb2⟩ := h2.parts9
    obtain ⟨j_1, j_2, j_3, j_4, j_5, j_6, j_7, j_8, j_9, j_a, j_b, j_c, rfl⟩ := In.cells hy2
    have hb2a := hb2.alloc hb2.size (.cells #[.int .i64 j_1, .bool j_2, .bool j_3, .string ⟨j_4.toArray⟩, .int .i64 j_5, .string ⟨j_6.toArray⟩, .slice j_7 j_8 j_9, .slice j_a j_b j_c] 28)
    have HE2 := Lib.hid (HE1.out.on hb2a)
    have HY2 := Lib.hid hy2
    have HK2 := Lib.hid (Blk.new w2 28 #[.int .i64 j_1, .bool j_2, .bool j_3, .string ⟨j_4.toArray⟩, .int .i64 j_5, .string ⟨j_6.toArray⟩, .slice j_7 j_8 j_9, .slice j_a j_b j_c])
    clear h2 hy2 hb2 hb2a HG HE1 a0 a1 a2 a3 a4 a5 a6 a7 o0 o1 o2 o3 o4 o5 o6 o7 o8 o9 o10
    go_upto_region 11 with (fail)
    generalize w2.alloc (.cells #[.int .i64 j_1, .bool j_2, .bool j_3, .string ⟨j_4.toArray⟩, .int .i64 j_5, .string ⟨j_6.toArray⟩, .slice j_7 j_8 j_9, .slice j_a j_b j_c] 28) = w3 at *
    generalize w2.heap.size = g8 at *
    obtain ⟨z0, z1, z2, z3, z4, z5, z6, z7⟩ := HE2.out.r.eight
    have zf := HE2.out.r.frozen
    have zl := HE2.out.r.lt
    obtain ⟨o0, o1, o2, o3, o4, o5, o6, o7, o8, o9, o10⟩ := HE2.out.o.eleven
    cases r with
    | none =>
      have HD := Lib.hid (doOp_none (v := v) (u := u) HQ3.out HNC.out (by rw [if_pos HQ6.out]; exact HR.out))
      go_wp2_with fail
      refine bodyPost_ret (results_row (l := [_, _, _, _, _, _, _, _]) rfl _ _ _ rfl (HE2.out.r.set8 _ _ _ _ _ _ _ _) Tryz.underlying28 rfl (by kernel_rfl)) rfl ?_
      exact HE2.out.bad (c := 6) HD.out (by omega) (by omega)
    | some x =>
      have HD := Lib.hid (doOp_test (u := u) (f := f) HQ6.out HR.out)
      have hcl := (HE2.out.leV).trans (on_all w3 S)
      have HSM := Lib.hid (refSame_any x u _ _ w3 (In.keep hcl _ _ HY2.out) (In.keep hcl _ _ HU.out))
      obtain ⟨sb, hsb⟩ : ∃ sb, x.same u = sb := ⟨_, rfl⟩
      rw [hsb] at HSM HD
      clear hsb hcl z0 z1 z2 z3 z4 z5 z6 z7 zf zl
      obtain ⟨a0, a1, a2, a3, a4, a5, a6, a7⟩ := HK2.out.eight
      go_wp2_with fail
      refine HSM.out.mono ?_
      rintro e4 w4 ⟨rfl, hb4⟩
      have HE4 := Lib.hid (HE2.out.on hb4)
      clear hb4 HSM HE2 a0 a1 a2 a3 a4 a5 a6 a7 o0 o1 o2 o3 o4 o5 o6 o7 o8 o9 o10
      obtain ⟨z0, z1, z2, z3, z4, z5, z6, z7⟩ := HE4.out.r.eight
      have zf := HE4.out.r.frozen
      have zl := HE4.out.r.lt
      obtain ⟨a0, a1, a2, a3, a4, a5, a6, a7⟩ := HE4.out.v.eight
      cases sb with
      | false =>
        go_wp2_with fail
        refine bodyPost_ret (results_row (l := [_, _, _, _, _, _, _, _]) rfl _ _ _ rfl (HE4.out.r.set8 _ _ _ _ _ _ _ _) Tryz.underlying28 rfl (by kernel_rfl)) rfl ?_
        exact HE4.out.bad (c := 8) HD.out (by omega) (by omega)
      | true =>
        go_wp2_with fail
        refine bodyPost_ret (results_row (l := [_, _, _, _, _, _, _, _]) rfl _ _ _ rfl (HE4.out.r.set8 _ _ _ _ _ _ _ _) Tryz.underlying28 rfl (by kernel_rfl)) rfl ?_
        exact HE4.out.old HX.out HD.out
  have hb6 : ((q : Int) == 6) = false := by rw [beq_eq_false_iff_ne]; omega
  have HG := Lib.hid (refGet_any f (w.on S) v _ F1 fe w1 hcl HX.out (HF.out.keep hcl) hfe (by unfold maxLen; omega) HFN.out (by omega))
  obtain ⟨r, hr⟩ : ∃ r, get v f = r := ⟨_, rfl⟩
  have HR := Lib.hid hr
  rw [hr] at HG
  have HQ6 := Lib.hid h6
  have h45 : q = 4 ∨ q = 5 := by have := HQ3.out; omega
  clear hr hcl h6
  go_wp2_with fail
  refine HG.out.mono ?_
  intro e2 w2 h2
  obtain ⟨y2, rfl, hy2, hb2⟩ := h2.parts9
  obtain ⟨j_1, j_2, j_3, j_4, j_5, j_6, j_7, j_8, j_9, j_a, j_b, j_c, rfl⟩ := In.cells hy2
  have hb2a := hb2.alloc hb2.size (.cells #[.int .i64 j_1, .bool j_2, .bool j_3, .string ⟨j_4.toArray⟩, .int .i64 j_5, .string ⟨j_6.toArray⟩, .slice j_7 j_8 j_9, .slice j_a j_b j_c] 28)
  have HE2 := Lib.hid (HE1.out.on hb2a)
  have HY2 := Lib.hid hy2
  have HK2 := Lib.hid (Blk.new w2 28 #[.int .i64 j_1, .bool j_2, .bool j_3, .string ⟨j_4.toArray⟩, .int .i64 j_5, .string ⟨j_6.toArray⟩, .slice j_7 j_8 j_9, .slice j_a j_b j_c])
  have hg8 : w.heap.size + 3 ≤ w2.heap.size := Nat.le_trans HE1.out.size hb2.size
  clear h2 hy2 hb2 hb2a HG HE1 a0 a1 a2 a3 a4 a5 a6 a7 o0 o1 o2 o3 o4 o5 o6 o7 o8 o9 o10
  go_upto_region 11 with (fail)
  generalize w2.alloc (.cells #[.int .i64 j_1, .bool j_2, .bool j_3, .string ⟨j_4.toArray⟩, .int .i64 j_5, .string ⟨j_6.toArray⟩, .slice j_7 j_8 j_9, .slice j_a j_b j_c] 28) = w3 at *
  generalize w2.heap.size = g8 at *
  obtain ⟨z0, z1, z2, z3, z4, z5, z6, z7⟩ := HE2.out.r.eight
  have zf := HE2.out.r.frozen
  have zl := HE2.out.r.lt
  obtain ⟨o0, o1, o2, o3, o4, o5, o6, o7, o8, o9, o10⟩ := HE2.out.o.eleven
  cases r with
  | none =>
    have HD := Lib.hid (doOp_none (v := v) (u := u) HQ3.out HNC.out (by rw [if_neg HQ6.out]; exact HR.out))
    go_wp2_with fail
    refine bodyPost_ret (results_row (l := [_, _, _, _, _, _, _, _]) rfl _ _ _ rfl (HE2.out.r.set8 _ _ _ _ _ _ _ _) Tryz.underlying28 rfl (by kernel_rfl)) rfl ?_
    exact HE2.out.bad (c := 6) HD.out (by omega) (by omega)
  | some x =>
    clear z0 z1 z2 z3 z4 z5 z6 z7 zf zl
    obtain ⟨hxn, hxs⟩ := Ap.get_neat f HNE.out HR.out
    obtain ⟨a0, a1, a2, a3, a4, a5, a6, a7⟩ := HE2.out.v.eight
    obtain ⟨b0, b1, b2, b3, b4, b5, b6, b7⟩ := HK2.out.eight
    have hs2 := HE2.out.size
    have hcl := (on_all w S).trans (le_below HE2.out.below)
    rcases h45 with h4 | h5
    · -- move
      have hb4 : ((q : Int) == 4) = true := by rw [h4]; rfl
      have HSN := Lib.hid (sameNames_any p f P1 F1 pe fe w3 (HP.out.keep hcl) (HF.out.keep hcl) hpe (by unfold maxLen; omega) hfe (by unfold maxLen; omega) hpt hft)
      have HQ4 := Lib.hid h4
      clear h4
      go_wp2_with fail
      refine HSN.out.mono ?_
      rintro e4 w4 ⟨rfl, hb4'⟩
      have HE4 := Lib.hid (HE2.out.on hb4')
      have HK4 := Lib.hid (HK2.out.on hb4')
      clear hb4' HSN HE2 HK2 hs2 hcl a0 a1 a2 a3 a4 a5 a6 a7 o0 o1 o2 o3 o4 o5 o6 o7 o8 o9 o10 b0 b1 b2 b3 b4 b5 b6 b7
      obtain ⟨a0, a1, a2, a3, a4, a5, a6, a7⟩ := HE4.out.v.eight
      obtain ⟨o0, o1, o2, o3, o4, o5, o6, o7, o8, o9, o10⟩ := HE4.out.o.eleven
      have hs4 := HE4.out.size
      have hcl4 := (on_all w S).trans (le_below HE4.out.below)
      by_cases hpf : p = f
      · have hd : decide (p = f) = true := decide_eq_true hpf
        have HD := Lib.hid (doOp_stay (u := u) HQ4.out hpf HR.out)
        clear hpf hcl4
        obtain ⟨z0, z1, z2, z3, z4, z5, z6, z7⟩ := HE4.out.r.eight
        have zf := HE4.out.r.frozen
        have zl := HE4.out.r.lt
        go_wp2_with fail
        refine bodyPost_ret (results_row (l := [_, _, _, _, _, _, _, _]) rfl _ _ _ rfl (HE4.out.r.set8 _ _ _ _ _ _ _ _) Tryz.underlying28 rfl (by kernel_rfl)) rfl ?_
        exact HE4.out.old HX.out HD.out
      have hd : decide (p = f) = false := decide_eq_false hpf
      have HD := Lib.hid (doOp_move (u := u) HQ4.out hpf HNC.out HR.out)
      have HED := Lib.hid (refEdit_any 2 (.inr (.inl rfl)) f S v Ps.mkN _ (.agg zeroC) F1 fe w4 (fun b hb => by have := HE4.out.hS b hb; omega) (In.keep HE4.out.leV _ _ HX.out) (leaf_in _ 0 false Nm.Num.zero []) (HF.out.keep hcl4) hfe (by unfold maxLen; omega) HFN.out HNE.out (by omega))
      obtain ⟨R2, hR2⟩ : ∃ R, Ed.edit 2 f v Ps.mkN = R := ⟨_, rfl⟩
      have HR2 := Lib.hid hR2
      rw [hR2] at HED HD
      clear hpf hR2 hcl4
      go_wp2_with fail
      refine HED.out.mono ?_
      intro e5 w5 h5
      obtain ⟨y5, c5, z5, rfl, hz5, hb5, hr5⟩ := h5.parts9
      obtain ⟨m_1, m_2, m_3, m_4, m_5, m_6, m_7, m_8, m_9, m_a, m_b, m_c, rfl⟩ := In.cells hz5
      have hb5a := hb5.alloc hb5.size (.cells #[.int .i64 m_1, .bool m_2, .bool m_3, .string ⟨m_4.toArray⟩, .int .i64 m_5, .string ⟨m_6.toArray⟩, .slice m_7 m_8 m_9, .slice m_a m_b m_c] 28)
      have HE5 := Lib.hid (HE4.out.on hb5a)
      have HK5 := Lib.hid (HK4.out.on hb5a)
      have HM5 := Lib.hid (Blk.new w5 28 #[.int .i64 m_1, .bool m_2, .bool m_3, .string ⟨m_4.toArray⟩, .int .i64 m_5, .string ⟨m_6.toArray⟩, .slice m_7 m_8 m_9, .slice m_a m_b m_c])
      have HZ5 := Lib.hid (In.keep (on_keep (fun _ h _ => h) (fun b _ h2 => Below.heap_alloc w5 (.cells #[.int .i64 m_1, .bool m_2, .bool m_3, .string ⟨m_4.toArray⟩, .int .i64 m_5, .string ⟨m_6.toArray⟩, .slice m_7 m_8 m_9, .slice m_a m_b m_c] 28) _ h2)) _ _ hz5)
      have hg5 : w.heap.size + 3 ≤ w5.heap.size := Nat.le_trans hs4 hb5.size
      clear h5 hz5 hb5 hb5a HED HE4 HK4 a0 a1 a2 a3 a4 a5 a6 a7 o0 o1 o2 o3 o4 o5 o6 o7 o8 o9 o10
      go_upto_region 23 with (fail)
      generalize w5.alloc (.cells #[.int .i64 m_1, .bool m_2, .bool m_3, .string ⟨m_4.toArray⟩, .int .i64 m_5, .string ⟨m_6.toArray⟩, .slice m_7 m_8 m_9, .slice m_a m_b m_c] 28) = w6 at *
      generalize w5.heap.size = g12 at *
      rcases hr5 with ⟨hc0, hr5⟩ | ⟨hc1, hc2, hr5, rfl⟩
      · have HD2 := Lib.hid (show Ap.doOp v ⟨q, p, f, u⟩ = Ed.edit 1 p z5 x by rw [HD.out, hr5])
        obtain ⟨hzn, hzs⟩ := Ap.neat_two HNE.out (HR2.out.trans hr5)
        have hcd : ((c5 : Int) != 0) = false := by rw [hc0]; rfl
        clear hr5 HD HR2 hc0
        obtain ⟨b0, b1, b2, b3, b4, b5, b6, b7⟩ := HM5.out.eight
        obtain ⟨a0, a1, a2, a3, a4, a5, a6, a7⟩ := HE5.out.v.eight
        have af := HE5.out.v.frozen
        have al := HE5.out.v.lt
        have HE7 := HE5.out.setv (.int .i64 m_1) (.bool m_2) (.bool m_3) (.string ⟨m_4.toArray⟩) (.int .i64 m_5) (.string ⟨m_6.toArray⟩) (.slice m_7 m_8 m_9) (.slice m_a m_b m_c)
        have HZ7 := In.keep (HE5.out.leSetv hs4 (.int .i64 m_1) (.bool m_2) (.bool m_3) (.string ⟨m_4.toArray⟩) (.int .i64 m_5) (.string ⟨m_6.toArray⟩) (.slice m_7 m_8 m_9) (.slice m_a m_b m_c)) _ _ HZ5.out
        obtain ⟨w7, hw7⟩ : ∃ W, W = set8 w6 w.heap.size (.int .i64 m_1) (.bool m_2) (.bool m_3) (.string ⟨m_4.toArray⟩) (.int .i64 m_5) (.string ⟨m_6.toArray⟩) (.slice m_7 m_8 m_9) (.slice m_a m_b m_c) := ⟨_, rfl⟩
        rw [← hw7] at HE7 HZ7
        have HK7 := Lib.hid (show Blk w7 g8 28 #[.int .i64 j_1, .bool j_2, .bool j_3, .string ⟨j_4.toArray⟩, .int .i64 j_5, .string ⟨j_6.toArray⟩, .slice j_7 j_8 j_9, .slice j_a j_b j_c] by rw [hw7]; exact HK5.out.set8o (by omega) _ _ _ _ _ _ _ _)
        have HW7 := Lib.hid hw7
        have HE7 := Lib.hid HE7
        have HZ7 := Lib.hid HZ7
        clear hw7 HM5
        go_upto_region 26 with (fail)
        rw [show ((((((((w6.setCell ⟨w.heap.size, 0, none⟩ (.int .i64 m_1)).setCell ⟨w.heap.size, 1, none⟩ (.bool m_2)).setCell ⟨w.heap.size, 2, none⟩ (.bool m_3)).setCell ⟨w.heap.size, 3, none⟩ (.string ⟨m_4.toArray⟩)).setCell ⟨w.heap.size, 4, none⟩ (.int .i64 m_5)).setCell ⟨w.heap.size, 5, none⟩ (.string ⟨m_6.toArray⟩)).setCell ⟨w.heap.size, 6, none⟩ (.slice m_7 m_8 m_9)).setCell ⟨w.heap.size, 7, none⟩ (.slice m_a m_b m_c)) = w7 from HW7.out.symm]
        clear HW7 HE5 HZ5 HK5 a0 a1 a2 a3 a4 a5 a6 a7 af al b0 b1 b2 b3 b4 b5 b6 b7
        obtain ⟨a0, a1, a2, a3, a4, a5, a6, a7⟩ := HE7.out.v.eight
        obtain ⟨o0, o1, o2, o3, o4, o5, o6, o7, o8, o9, o10⟩ := HE7.out.o.eleven
        obtain ⟨b0, b1, b2, b3, b4, b5, b6, b7⟩ := HK7.out.eight
        have hs7 := HE7.out.size
        have HED3 := Lib.hid (refEdit_any 1 (.inl rfl) p (fun b => (S b ∨ w.heap.size + 3 ≤ b) ∧ b < w7.heap.size) z5 x _ _ P1 pe w7 (fun b hb => hb.2)
          (In.keep (on_keep (w' := w7) (fun b h h2 => ⟨h, h2⟩) (fun b _ _ => rfl)) _ _ HZ7.out) (In.keep (HE7.out.leV.trans (on_keep (w' := w7) (fun b h h2 => ⟨.inl h, h2⟩) (fun b _ _ => rfl))) _ _ HY2.out)
          (HP.out.keep ((on_all w S).trans (le_below HE7.out.below))) hpe (by unfold maxLen; omega) HPN.out hzn (by omega))
        go_wp2_with fail
        refine HED3.out.mono ?_
        intro e8 w8 h8
        obtain ⟨y8, c8, z8, rfl, hz8, hb8, hr8⟩ := h8.parts9
        obtain ⟨n_1, n_2, n_3, n_4, n_5, n_6, n_7, n_8, n_9, n_a, n_b, n_c, rfl⟩ := In.cells hz8
        have HE8 := Lib.hid (HE7.out.on hb8)
        have HZ8 := Lib.hid (In.keep (on_sub (S' := fun b => S b ∨ w.heap.size + 3 ≤ b) (fun b h => h.elim (fun h => h.1) (fun h => .inr (by omega)))) _ _ hz8)
        have HR8 := Lib.hid hr8
        clear h8 hz8 hb8 hr8 HED3 HE7 HZ7 HK7 a0 a1 a2 a3 a4 a5 a6 a7 o0 o1 o2 o3 o4 o5 o6 o7 o8 o9 o10 b0 b1 b2 b3 b4 b5 b6 b7
        obtain ⟨z0, z1, z2, z3, z4, z5', z6, z7⟩ := HE8.out.r.eight
        have zf := HE8.out.r.frozen
        have zl := HE8.out.r.lt
        go_wp2_with fail
        refine bodyPost_ret (results_row (l := [_, _, _, _, _, _, _, _]) rfl _ _ _ rfl (HE8.out.r.set8 _ _ _ _ _ _ _ _) Tryz.underlying28 rfl (by kernel_rfl)) rfl ?_
        rw [HD2.out]
        exact HE8.out.edit (Nat.le_refl _) HZ8.out HR8.out
      · have HD2 := Lib.hid (show Ap.doOp v ⟨q, p, f, u⟩ = .bad c5 by rw [HD.out, hr5])
        have hcd : ((c5 : Int) != 0) = true := by simp; omega
        obtain ⟨z0, z1, z2, z3, z4, z5, z6, z7⟩ := HE5.out.r.eight
        have zf := HE5.out.r.frozen
        have zl := HE5.out.r.lt
        clear hr5 HD HR2
        go_wp2_with fail
        refine bodyPost_ret (results_row (l := [_, _, _, _, _, _, _, _]) rfl _ _ _ rfl (HE5.out.r.set8 _ _ _ _ _ _ _ _) Tryz.underlying28 rfl (by kernel_rfl)) rfl ?_
        exact HE5.out.bad HD2.out hc1 hc2
    · -- copy
      have hb4 : ((q : Int) == 4) = false := by rw [beq_eq_false_iff_ne]; omega
      have HD := Lib.hid (doOp_copy (p := p) (u := u) h5 HR.out)
      have HED := Lib.hid (refEdit_any 1 (.inl rfl) p S v x _ _ P1 pe w3 (fun b hb => by have := HE2.out.hS b hb; omega) (In.keep HE2.out.leV _ _ HX.out) (In.keep HE2.out.leV _ _ HY2.out) (HP.out.keep hcl) hpe (by unfold maxLen; omega) HPN.out HNE.out (by omega))
      clear h5 hcl
      go_wp2_with fail
      refine HED.out.mono ?_
      intro e5 w5 h5
      obtain ⟨y5, c5, z5, rfl, hz5, hb5, hr5⟩ := h5.parts9
      obtain ⟨m_1, m_2, m_3, m_4, m_5, m_6, m_7, m_8, m_9, m_a, m_b, m_c, rfl⟩ := In.cells hz5
      have HE5 := Lib.hid (HE2.out.on hb5)
      have HZ5 := Lib.hid hz5
      have HR5 := Lib.hid hr5
      clear h5 hz5 hb5 hr5 HED HE2 a0 a1 a2 a3 a4 a5 a6 a7 o0 o1 o2 o3 o4 o5 o6 o7 o8 o9 o10 b0 b1 b2 b3 b4 b5 b6 b7
      obtain ⟨z0, z1, z2, z3, z4, z5', z6, z7⟩ := HE5.out.r.eight
      have zf := HE5.out.r.frozen
      have zl := HE5.out.r.lt
      go_wp2_with fail
      refine bodyPost_ret (results_row (l := [_, _, _, _, _, _, _, _]) rfl _ _ _ rfl (HE5.out.r.set8 _ _ _ _ _ _ _ _) Tryz.underlying28 rfl (by kernel_rfl)) rfl ?_
      rw [HD.out]
      exact HE5.out.edit hs2 HZ5.out HR5.out

end Go.Proofs.YtjjenpmahmbafaaGreatDoor


