/- Ae: Ae Ai Aj, in one text. -/
import Derived.Test.YtjjenpmahmbafaaGreatDoorAb
import Derived.Test.YtjjenpmahmbafaaGreatDoorPq
import Derived.Test.YtjjenpmahmbafaaGreatDoorPw
import Derived.BigQuiet
import Derived.Deep.AppendLies
namespace Go.Proofs.YtjjenpmahmbafaaGreatDoor.Oq
open Js Pt

def namesL : List (List UInt8) := [[], [97, 100, 100], [114, 101, 109, 111, 118, 101], [114, 101, 112, 108, 97, 99, 101], [109, 111, 118, 101], [99, 111, 112, 121], [116, 101, 115, 116]]
theorem namesL_iff (i : Nat) (h1 : 1 ≤ i) (h7 : i < namesL.length) (s : List UInt8) : (s = namesL[i]) ↔ numOf s = i := by
  have h7' : i < 7 := h7
  constructor
  · intro h
    subst h
    match i, h1, h7' with
    | 1, _, _ => rfl
    | 2, _, _ => rfl
    | 3, _, _ => rfl
    | 4, _, _ => rfl
    | 5, _, _ => rfl
    | 6, _, _ => rfl
  · unfold numOf
    intro h
    repeat' split at h
    all_goals
      subst h
      first
      | assumption
      | omega
def tgt (r : Option (List UInt8)) : Nat := (r.map numOf).getD 0
theorem tgt_le (r : Option (List UInt8)) : tgt r ≤ 6 := by
  cases r with
  | none => exact Nat.zero_le _
  | some t => exact numOf_le t
theorem opn_zero {v : Vl} (h : tgt (textOf v kOp) = 0) : opn v = none := by
  unfold opn
  cases ht : textOf v kOp with
  | none => rfl
  | some t =>
    rw [ht] at h
    have h : numOf t = 0 := h
    simp [h]
theorem opn_tgt {v : Vl} {q : Nat} (h : tgt (textOf v kOp) = q) (h0 : q ≠ 0) : opn v = (ptrOf v kPath).bind fun p => restOf v q p := by
  cases ht : textOf v kOp with
  | none => rw [ht] at h; exact absurd h.symm h0
  | some t =>
    rw [ht] at h
    have h : numOf t = q := h
    subst h
    unfold opn
    rw [ht]
    simp [h0]
def far (q i : Nat) : Nat := if q < i then q else 0

end Go.Proofs.YtjjenpmahmbafaaGreatDoor.Oq
namespace Go.Proofs.YtjjenpmahmbafaaGreatDoor
open Go.RowKit Pt Js Oq

theorem own_strs_new {w : World} {B : Nat} {A : Option Addr} {cp : Nat} {l : List (List UInt8)} (h : w.ownsRow B 9 1 (.slice A l.length cp) l.length (strs l)) : Strs (w.on (B ≤ ·)) A l ∧ l.length ≤ cp ∧ cp ≤ maxLen := by
  obtain ⟨hl, ⟨h, h0⟩ | ⟨g, cap, cur, hv, hb, hc, h1, h2, h3, h4⟩⟩ := h
  · injection h with _ _ h2
    subst h2
    refine ⟨fun i n hi => ?_, by omega, by unfold maxLen; omega⟩
    have := (List.getElem?_eq_some_iff.1 hi).1
    omega
  · injection hv with ha hn hcap
    subst hcap ha
    refine ⟨fun i n hi => ⟨g, 0, rfl, on_some.2 ⟨hb, ?_⟩⟩, h1, h2⟩
    have hil := (List.getElem?_eq_some_iff.1 hi).1
    rw [Nat.zero_add, cell_of_row w g i cur 9 (0, 0) hc]
    have hx : (strs l)[i]? = some (.string ⟨n.toArray⟩) := by simp [strs, hi]
    rw [← h4] at hx
    have hx2 := List.getElem?_eq_some_iff.1 hx
    obtain ⟨h5, h6⟩ := hx2
    rw [List.getElem_take] at h6
    rw [← Array.getElem?_toList, List.getElem?_eq_some_iff]
    exact ⟨_, h6⟩
theorem PtrPost.parts {t : List UInt8} {w w' : World} {e : Ending} (h : PtrPost t w e w') (ht : t.length ≤ 100000) :
    ∃ (A : Option Addr) (cp : Nat) (pv : Int), e = .returned (.tuple #[.slice A ((namesOf t).getD []).length cp, .int .i64 pv]) ∧ decide (pv < 0) = (namesOf t).isSome ∧
      Strs (w'.on (w.heap.size ≤ ·)) A ((namesOf t).getD []) ∧ ((namesOf t).getD []).length ≤ cp ∧ cp ≤ maxLen ∧ ((namesOf t).getD []).length ≤ 100000 ∧ Below w.heap.size w w' := by
  obtain ⟨hb, ⟨l, A, cp, hp, rfl, hs⟩ | ⟨p, hp, rfl⟩⟩ := h
  · have e1 : namesOf t = some l := by unfold namesOf; rw [hp]
    have h2 := (parse_back hp).2
    obtain ⟨o1, o2, o3⟩ := own_strs_new hs
    rw [e1]
    exact ⟨A, cp, -1, rfl, rfl, o1, o2, o3, by show l.length ≤ 100000; omega, hb⟩
  · have e1 : namesOf t = none := by unfold namesOf; rw [hp]
    rw [e1]
    exact ⟨none, 0, p, rfl, by simp, (fun i n h => by simp at h), Nat.le_refl _, Nat.zero_le _, Nat.zero_le _, hb⟩

set_option linter.unusedVariables false in
set_option linter.unusedSimpArgs false in
set_option maxRecDepth 100000 in
set_option maxHeartbeats 1000000 in
theorem refPtr8_any (c : Cl) (v : Vl) (key : List UInt8) (x : Value) (w : World) (hv : Fit v) (hcl : c.le w.cell?) (hx : v.In c x) :
    Calls Tryz.prog 56 #[x, .string ⟨key.toArray⟩] w (PtrOfPost (ptrOf v key) w) := by
  obtain ⟨k_1, k_2, k_3, k_4, k_5, k_6, k_7, k_8, k_9, k_a, k_b, k_c, rfl⟩ := In.cells hx
  have HB := Lib.hid ((Below.refl w.heap.size w).alloc (Nat.le_refl _) (.cells #[.int .i64 k_1, .bool k_2, .bool k_3, .string ⟨k_4.toArray⟩, .int .i64 k_5, .string ⟨k_6.toArray⟩, .slice k_7 k_8 k_9, .slice k_a k_b k_c] 28))
  have HFI := Lib.hid (refFindC_any c v key _ (w.alloc (.cells #[.int .i64 k_1, .bool k_2, .bool k_3, .string ⟨k_4.toArray⟩, .int .i64 k_5, .string ⟨k_6.toArray⟩, .slice k_7 k_8 k_9, .slice k_a k_b k_c] 28)) (hcl.trans (le_alloc _ _)) hx)
  have HTL := Lib.hid (fun t (h : textOf v key = some t) => text_len hv h)
  obtain ⟨r, hr⟩ : ∃ r, v.find key = r := ⟨_, rfl⟩
  have hT : textOf v key = r.bind strOf := by unfold textOf; rw [hr]
  have hP : ptrOf v key = (r.bind strOf).bind namesOf := by unfold ptrOf; rw [hT]
  rw [hP]
  rw [hr] at HFI
  rw [hT] at HTL
  obtain ⟨q, hq⟩ : ∃ q, (r.bind strOf).bind namesOf = q := ⟨_, rfl⟩
  rw [hq]
  have HQ := Lib.hid hq
  clear hr hT hP hx hcl hv hq
  have HK1 := Lib.hid (Blk.new w 28 #[.int .i64 k_1, .bool k_2, .bool k_3, .string ⟨k_4.toArray⟩, .int .i64 k_5, .string ⟨k_6.toArray⟩, .slice k_7 k_8 k_9, .slice k_a k_b k_c])
  go_enter Tryz.func56, Tryz.ntmps56
  go_upto_region 1 with (fail)
  generalize w.alloc (.cells #[.int .i64 k_1, .bool k_2, .bool k_3, .string ⟨k_4.toArray⟩, .int .i64 k_5, .string ⟨k_6.toArray⟩, .slice k_7 k_8 k_9, .slice k_a k_b k_c] 28) = w1 at *
  obtain ⟨a0, a1, a2, a3, a4, a5, a6, a7⟩ := HK1.out.eight
  go_wp2_with fail
  refine HFI.out.mono ?_
  rintro e w2 ⟨y, rfl, hy, hb2⟩
  have HB2 := Lib.hid (HB.out.trans (hb2.mono HB.out.size))
  cases r with
  | none =>
    obtain ⟨j_1, j_2, j_3, j_4, j_5, j_6, j_7, j_8, j_9, j_a, j_b, j_c, rfl⟩ := In.cells hy
    have HB3 := Lib.hid (HB2.out.alloc HB2.out.size (.cells #[.int .i64 j_1, .bool j_2, .bool j_3, .string ⟨j_4.toArray⟩, .int .i64 j_5, .string ⟨j_6.toArray⟩, .slice j_7 j_8 j_9, .slice j_a j_b j_c] 28))
    clear hb2 hy HB
    obtain rfl : q = none := HQ.out.symm
    go_wp2_with fail
    go_ret2
    exact ⟨none, 0, rfl, (fun i n h => by simp at h), Nat.le_refl _, Nat.zero_le _, Nat.zero_le _, HB3.out⟩
  | some u =>
    obtain ⟨k, b, n, s, l, m⟩ := u
    obtain ⟨A, e, B, d, rfl, q1, q2, q3, q4, q5, q6⟩ := In.form hy
    have HB3 := Lib.hid (HB2.out.alloc HB2.out.size (.cells #[.int .i64 k, .bool b, .bool n.neg, .string ⟨n.digits.toArray⟩, .int .i64 n.exp, .string ⟨s.toArray⟩, .slice A l.length e, .slice B m.length d] 28))
    have HK3 := Lib.hid (Blk.new w2 28 #[.int .i64 k, .bool b, .bool n.neg, .string ⟨n.digits.toArray⟩, .int .i64 n.exp, .string ⟨s.toArray⟩, .slice A l.length e, .slice B m.length d])
    clear hb2 hy HB q5 q6 a0 a1 a2 a3 a4 a5 a6 a7
    go_upto_region 2 with (fail)
    generalize w2.alloc (.cells #[.int .i64 k, .bool b, .bool n.neg, .string ⟨n.digits.toArray⟩, .int .i64 n.exp, .string ⟨s.toArray⟩, .slice A l.length e, .slice B m.length d] 28) = w3 at *
    obtain ⟨a0, a1, a2, a3, a4, a5, a6, a7⟩ := HK3.out.eight
    by_cases hk : k = 3
    · subst hk
      have ht := HTL.out s rfl
      obtain rfl : q = namesOf s := HQ.out.symm
      have HPP := Lib.hid (refPointer_any s w3 ht)
      clear HTL
      go_wp2_with fail
      refine HPP.out.mono ?_
      intro e4 w4 h4
      obtain ⟨F, cp, pv, rfl, hpv, hs4, hc1, hc2, hc3, hb4⟩ := h4.parts ht
      have HS4 := Lib.hid hs4
      have HB4 := Lib.hid (HB3.out.trans (hb4.mono HB3.out.size))
      have HL3 := Lib.hid HB3.out.size
      generalize hbb : (namesOf s).isSome = bb at *
      clear h4 hs4 hb4 HPP
      go_wp2_with fail
      go_ret2
      refine ⟨F, cp, ?_, Strs.keep (on_sub (w := w4) (fun b h => Nat.le_trans HL3.out h)) HS4.out, hc1, hc2, hc3, HB4.out⟩
      rw [hbb]; rfl
    · have hk2 : (k != 3) = true := by simpa using hk
      obtain rfl : q = none := by
        have h1 : strOf (Vl.mk k b n s l m) = none := if_neg hk
        have h2 := HQ.out
        simp only [Option.bind_some, h1, Option.bind_none] at h2
        exact h2.symm
      clear hk
      go_wp2_with fail
      go_ret2
      exact ⟨none, 0, rfl, (fun i n h => by simp at h), Nat.le_refl _, Nat.zero_le _, Nat.zero_le _, HB3.out⟩

def Opping (w : World) (S : Nat → Prop) (g6 gN : Nat) (V U : Array Value) (q : Nat) (v : Value) (wr : World) : Prop :=
  ∃ i : Nat, 1 ≤ i ∧ i ≤ 7 ∧ v = .int .i64 i ∧ Op8 w S g6 V zeroO #[.int .i64 (far q i), .slice none 0 0, .slice none 0 0, .int .i64 0, .bool false, .bool false, .string ⟨#[]⟩, .int .i64 0, .string ⟨#[]⟩, .slice none 0 0, .slice none 0 0] wr ∧
    Blk wr gN 28 U ∧ Strs wr.cell? (some ⟨w.heap.size + 2, 0, none⟩) namesL

end Go.Proofs.YtjjenpmahmbafaaGreatDoor

namespace Go.Proofs.YtjjenpmahmbafaaGreatDoor.Oq
theorem far_one (q : Nat) : far q 1 = 0 := by unfold far; split <;> omega
theorem far_self (i : Nat) : far i (i + 1) = i := by unfold far; split <;> omega
theorem far_ne {q i : Nat} (h : q ≠ i) : far q (i + 1) = far q i := by
  unfold far
  by_cases h1 : q < i
  · rw [if_pos h1, if_pos (by omega)]
  · rw [if_neg h1, if_neg (by omega)]
theorem far_end {q : Nat} (h : q ≤ 6) : far q 7 = q := if_pos (by omega)
end Go.Proofs.YtjjenpmahmbafaaGreatDoor.Oq
namespace Go.Proofs.YtjjenpmahmbafaaGreatDoor
open Go.RowKit Pt Js Oq

theorem Op8.set0 {w wr : World} {S : Nat → Prop} {g6 : Nat} {V R : Array Value} {c0 c1 c2 c3 c4 c5 c6 c7 c8 c9 c10 : Value} (h : Op8 w S g6 V R #[c0, c1, c2, c3, c4, c5, c6, c7, c8, c9, c10] wr) (u : Value) : Op8 w S g6 V R #[u, c1, c2, c3, c4, c5, c6, c7, c8, c9, c10] (wr.setCell ⟨g6, 0, none⟩ u) :=
  ⟨h.v.far (by have := h.e6; omega), h.r.far (by have := h.e6; omega), Blk.setL (l := [c0, c1, c2, c3, c4, c5, c6, c7, c8, c9, c10]) h.o 0 u, h.e6, h.below.setCell (p := ⟨g6, 0, none⟩) (by have := h.e6; simp; omega) u, h.hS⟩
theorem Op8.drewN {w wr : World} {S : Nat → Prop} {g6 : Nat} {V R O : Array Value} (h : Op8 w S g6 V R O wr) (n : Nat) : Op8 w S g6 V R O (wr.drewN n) := ⟨h.v.drewN n, h.r.drewN n, h.o.drewN n, h.e6, below_drewN h.below n, h.hS⟩
theorem below_four (w : World) (o1 o2 o3 o4 : Obj) : Below w.heap.size w ((((w.alloc o1).alloc o2).alloc o3).alloc o4) := (below_three w o1 o2 o3).alloc (by simp; omega) _
theorem Blk.new4 (w : World) (o1 o2 o3 : Obj) (t : TypeId) (cs : Array Value) : Blk ((((w.alloc o1).alloc o2).alloc o3).alloc (.cells cs t)) (w.heap.size + 3) t cs := by
  have := Blk.new (((w.alloc o1).alloc o2).alloc o3) t cs
  simpa using this
theorem strs_far {w : World} {g h i : Nat} {u : Value} {o : Nat} {l : List (List UInt8)} (hs : Strs w.cell? (some ⟨g, o, none⟩) l) (hn : g ≠ h) : Strs (w.setCell ⟨h, i, none⟩ u).cell? (some ⟨g, o, none⟩) l := fun j n hj => by
  obtain ⟨g', o', h1, h2⟩ := hs j n hj
  injection h1 with h1
  injection h1 with h1 h3 _
  subst h1 h3
  refine ⟨g, o, rfl, ?_⟩
  rw [World.cell?_of_block (w := w) (heap_setCell w h i u hn)]
  exact h2

set_option linter.unusedVariables false in
set_option linter.unusedSimpArgs false in
set_option maxRecDepth 100000 in
set_option maxHeartbeats 8000000 in
theorem refOp8_any (S : Nat → Prop) (v : Vl) (x : Value) (w : World) (hS : ∀ b, S b → b < w.heap.size) (hv : Fit v) (hx : v.In (w.on S) x) :
    Calls Tryz.prog 33 #[x] w (OpPost S (opn v) w) := by
  have HX := Lib.hid hx
  obtain ⟨k_1, k_2, k_3, k_4, k_5, k_6, k_7, k_8, k_9, k_a, k_b, k_c, rfl⟩ := In.cells hx
  have hcl := le_on w S
  have HE0 := Lib.hid (show Op8 w S (w.heap.size + 3) #[.int .i64 k_1, .bool k_2, .bool k_3, .string ⟨k_4.toArray⟩, .int .i64 k_5, .string ⟨k_6.toArray⟩, .slice k_7 k_8 k_9, .slice k_a k_b k_c] zeroO zeroO ((((w.alloc (.cells #[.int .i64 k_1, .bool k_2, .bool k_3, .string ⟨k_4.toArray⟩, .int .i64 k_5, .string ⟨k_6.toArray⟩, .slice k_7 k_8 k_9, .slice k_a k_b k_c] 28)).alloc (.cells zeroO 52)).alloc (.cells #[.string ⟨#[]⟩, .string ⟨#[97, 100, 100]⟩, .string ⟨#[114, 101, 109, 111, 118, 101]⟩, .string ⟨#[114, 101, 112, 108, 97, 99, 101]⟩, .string ⟨#[109, 111, 118, 101]⟩, .string ⟨#[99, 111, 112, 121]⟩, .string ⟨#[116, 101, 115, 116]⟩] 9)).alloc (.cells zeroO 52)) from
    ⟨(((Blk.new w 28 #[.int .i64 k_1, .bool k_2, .bool k_3, .string ⟨k_4.toArray⟩, .int .i64 k_5, .string ⟨k_6.toArray⟩, .slice k_7 k_8 k_9, .slice k_a k_b k_c]).alloc _).alloc _).alloc _, ((Blk.new2 w (.cells #[.int .i64 k_1, .bool k_2, .bool k_3, .string ⟨k_4.toArray⟩, .int .i64 k_5, .string ⟨k_6.toArray⟩, .slice k_7 k_8 k_9, .slice k_a k_b k_c] 28) 52 zeroO).alloc _).alloc _, Blk.new4 _ _ _ _ _ _, by omega, below_four _ _ _ _ _, hS⟩)
  have HN0 := Lib.hid (show Strs ((((w.alloc (.cells #[.int .i64 k_1, .bool k_2, .bool k_3, .string ⟨k_4.toArray⟩, .int .i64 k_5, .string ⟨k_6.toArray⟩, .slice k_7 k_8 k_9, .slice k_a k_b k_c] 28)).alloc (.cells zeroO 52)).alloc (.cells #[.string ⟨#[]⟩, .string ⟨#[97, 100, 100]⟩, .string ⟨#[114, 101, 109, 111, 118, 101]⟩, .string ⟨#[114, 101, 112, 108, 97, 99, 101]⟩, .string ⟨#[109, 111, 118, 101]⟩, .string ⟨#[99, 111, 112, 121]⟩, .string ⟨#[116, 101, 115, 116]⟩] 9)).alloc (.cells zeroO 52)).cell? (some ⟨w.heap.size + 2, 0, none⟩) namesL from
    strs_at (l := namesL) ((Blk.new3 w (.cells #[.int .i64 k_1, .bool k_2, .bool k_3, .string ⟨k_4.toArray⟩, .int .i64 k_5, .string ⟨k_6.toArray⟩, .slice k_7 k_8 k_9, .slice k_a k_b k_c] 28) (.cells zeroO 52) 9 #[.string ⟨#[]⟩, .string ⟨#[97, 100, 100]⟩, .string ⟨#[114, 101, 109, 111, 118, 101]⟩, .string ⟨#[114, 101, 112, 108, 97, 99, 101]⟩, .string ⟨#[109, 111, 118, 101]⟩, .string ⟨#[99, 111, 112, 121]⟩, .string ⟨#[116, 101, 115, 116]⟩]).alloc _))
  have HV := Lib.hid hv
  have HCL := Lib.hid hcl
  clear hx hcl hS hv
  go_enter Tryz.func33, Tryz.ntmps33
  go_upto_region 3 with (fail)
  generalize (((w.alloc (.cells #[.int .i64 k_1, .bool k_2, .bool k_3, .string ⟨k_4.toArray⟩, .int .i64 k_5, .string ⟨k_6.toArray⟩, .slice k_7 k_8 k_9, .slice k_a k_b k_c] 28)).alloc (.cells zeroO 52)).alloc (.cells #[.string ⟨#[]⟩, .string ⟨#[97, 100, 100]⟩, .string ⟨#[114, 101, 109, 111, 118, 101]⟩, .string ⟨#[114, 101, 112, 108, 97, 99, 101]⟩, .string ⟨#[109, 111, 118, 101]⟩, .string ⟨#[99, 111, 112, 121]⟩, .string ⟨#[116, 101, 115, 116]⟩] 9)).alloc (.cells zeroO 52) = w0 at *
  generalize hg6 : w.heap.size + 3 = g6 at *
  have HFI := Lib.hid (refFindC_any _ v kOp _ w0 (HCL.out.trans (le_below HE0.out.below)) HX.out)
  obtain ⟨r, hr⟩ : ∃ r, v.find kOp = r := ⟨_, rfl⟩
  have HT := Lib.hid (show textOf v kOp = r.bind strOf by unfold textOf; rw [hr])
  rw [hr] at HFI
  clear hr
  obtain ⟨a0, a1, a2, a3, a4, a5, a6, a7⟩ := HE0.out.v.eight
  go_wp2_with fail
  refine HFI.out.mono ?_
  rintro e1 w1 ⟨y1, rfl, hy1, hb1⟩
  cases r with
  | none =>
    obtain ⟨j_1, j_2, j_3, j_4, j_5, j_6, j_7, j_8, j_9, j_a, j_b, j_c, rfl⟩ := In.cells hy1
    have hba := hb1.alloc hb1.size (.cells #[.int .i64 j_1, .bool j_2, .bool j_3, .string ⟨j_4.toArray⟩, .int .i64 j_5, .string ⟨j_6.toArray⟩, .slice j_7 j_8 j_9, .slice j_a j_b j_c] 28)
    have HE2 := Lib.hid (HE0.out.on hba)
    have HN := Lib.hid (show opn v = none from opn_zero (by rw [HT.out]; rfl))
    clear hb1 hba hy1 HFI a0 a1 a2 a3 a4 a5 a6 a7 HN0 HE0
    go_upto_region 4 with (fail)
    generalize w1.alloc (.cells #[.int .i64 j_1, .bool j_2, .bool j_3, .string ⟨j_4.toArray⟩, .int .i64 j_5, .string ⟨j_6.toArray⟩, .slice j_7 j_8 j_9, .slice j_a j_b j_c] 28) = w2 at *
    go_wp2_with fail
    go_loopw [8] (fun v8 wr => v8 = .int .i64 1 ∧ wr = w2) (fun _ _ => 0)
    case atStart => exact ⟨rfl, rfl⟩
    case round =>
      obtain ⟨rfl, rfl⟩ := hrel
      have HPT := Lib.hid (refPtr8_any _ v kPath _ wr HV.out (HCL.out.trans (le_below HE2.out.below)) HX.out)
      obtain ⟨a0, a1, a2, a3, a4, a5, a6, a7⟩ := HE2.out.v.eight
      go_wp2_with fail
      refine HPT.out.mono ?_
      rintro e3 w3 ⟨A, cp, rfl, hsA, hcA, hcm, hll, hb3⟩
      have HE3 := Lib.hid (HE2.out.on hb3)
      clear hb3 HPT HE2 a0 a1 a2 a3 a4 a5 a6 a7
      obtain ⟨o0, o1, o2, o3, o4, o5, o6, o7, o8, o9, o10⟩ := HE3.out.o.eleven
      obtain ⟨z0, z1, z2, z3, z4, z5, z6, z7, z8, z9, z10⟩ := HE3.out.r.eleven
      have zf := HE3.out.r.frozen
      have zl := HE3.out.r.lt
      go_wp2_with fail
      refine bodyPost_ret (results_row (l := [_, _, _, _, _, _, _, _, _, _, _]) rfl _ _ _ rfl (HE3.out.r.set11 _ _ _ _ _ _ _ _ _ _ _) Tryz.underlying52 rfl (by kernel_rfl)) rfl ?_
      exact OpPost.no HN.out (below_set11 HE3.out.below (by omega) _ _ _ _ _ _ _ _ _ _ _)
  | some u =>
    obtain ⟨k, b, n, s, l, m⟩ := u
    obtain ⟨A0, e0, B0, d0, rfl, q1, q2, q3, q4, q5, q6⟩ := In.form hy1
    have hba := hb1.alloc hb1.size (.cells #[.int .i64 k, .bool b, .bool n.neg, .string ⟨n.digits.toArray⟩, .int .i64 n.exp, .string ⟨s.toArray⟩, .slice A0 l.length e0, .slice B0 m.length d0] 28)
    have HE2 := Lib.hid (HE0.out.on hba)
    have HN2 := Lib.hid (HN0.out.keep (le_below hba))
    have HU2 := Lib.hid (Blk.new w1 28 #[.int .i64 k, .bool b, .bool n.neg, .string ⟨n.digits.toArray⟩, .int .i64 n.exp, .string ⟨s.toArray⟩, .slice A0 l.length e0, .slice B0 m.length d0])
    have hlN := Nat.lt_of_lt_of_le HE0.out.o.lt hb1.size
    obtain ⟨q, hq⟩ : ∃ q, tgt (textOf v kOp) = q := ⟨_, rfl⟩
    have HQ := Lib.hid hq
    have hq6 : q ≤ 6 := by rw [← hq]; exact tgt_le _
    have HQ3 := Lib.hid (show k = 3 → numOf s = q from fun hk => by rw [← hq, HT.out]; show _ = tgt (if k = 3 then some s else none); rw [if_pos hk]; rfl)
    have HQ0 := Lib.hid (show ¬ k = 3 → q = 0 from fun hk => by rw [← hq, HT.out]; show tgt (if k = 3 then some s else none) = 0; rw [if_neg hk]; rfl)
    clear hb1 hba hy1 HFI a0 a1 a2 a3 a4 a5 a6 a7 HN0 HE0 q5 q6 hq HT
    go_upto_region 4 with (fail)
    generalize w1.alloc (.cells #[.int .i64 k, .bool b, .bool n.neg, .string ⟨n.digits.toArray⟩, .int .i64 n.exp, .string ⟨s.toArray⟩, .slice A0 l.length e0, .slice B0 m.length d0] 28) = w2 at *
    generalize w1.heap.size = gN at *
    go_wp2_with fail
    go_loopw [8] (Opping w S g6 gN #[.int .i64 k_1, .bool k_2, .bool k_3, .string ⟨k_4.toArray⟩, .int .i64 k_5, .string ⟨k_6.toArray⟩, .slice k_7 k_8 k_9, .slice k_a k_b k_c] #[.int .i64 k, .bool b, .bool n.neg, .string ⟨n.digits.toArray⟩, .int .i64 n.exp, .string ⟨s.toArray⟩, .slice A0 l.length e0, .slice B0 m.length d0] q) (fun i _ => 7 - (intOf i).toNat)
    case atStart => exact ⟨1, by omega, by omega, rfl, by rw [far_one]; exact HE2.out, HU2.out, HN2.out⟩
    case round =>
      obtain ⟨i, hi1, hi7, rfl, hE, hU, hNS⟩ := hrel
      have HE := Lib.hid hE
      have HU := Lib.hid hU
      have HNS := Lib.hid hNS
      clear hE hU hNS HE2 HN2 HU2
      by_cases hlt : i < 7
      · obtain ⟨g9, o9, hA9, hc9⟩ := HNS.out i _ (List.getElem?_eq_getElem (show i < namesL.length from hlt))
        injection hA9 with hA9
        injection hA9 with hg9 ho9 _
        subst hg9 ho9
        rw [Nat.zero_add] at hc9
        have hii : (i : Int) < 7 := by omega
        have HIFF := Lib.hid (namesL_iff i hi1 hlt s)
        generalize namesL[i]'(show i < namesL.length from hlt) = nm at *
        obtain ⟨a0, a1, a2, a3, a4, a5, a6, a7⟩ := HU.out.eight
        have hgl := HU.out.lt
        have hgl9 := World.block_lt_of_cell? _ _ hc9
        obtain ⟨o0, o1, o2, o3, o4, o5, o6, o7, o8, o9, o10⟩ := HE.out.o.eleven
        have of := HE.out.o.frozen
        have ol := HE.out.o.lt
        by_cases hk : k = 3
        · by_cases hs : s = nm
          · have hqi : q = i := by rw [← HQ3.out hk]; exact HIFF.out.1 hs
            subst hk
            have hsb : (s == nm) = true := by simpa using hs
            clear hs
            have HF := Lib.hid (show far q (i + 1) = i by rw [hqi, far_self])
            clear hqi
            go_upto_region 7 with (fail)
            go_quiet (fail)
            go_wp2_with fail
            go_roundw
            case rel => exact ⟨i + 1, by omega, by omega, by go_num, by rw [HF.out]; exact (HE.out.drewN _).set0 _, (HU.out.drewN _).far (by omega), strs_far (w := wr.drewN _) HNS.out (by omega)⟩
            case measure => simp [intOf]; omega
          · have hqi : q ≠ i := fun h => hs (HIFF.out.2 (by rw [HQ3.out hk, h]))
            subst hk
            have hsb : (s == nm) = false := by simpa using hs
            clear hs
            have HF := Lib.hid (far_ne hqi)
            clear hqi
            go_upto_region 7 with (fail)
            go_quiet (fail)
            go_wp2_with fail
            go_roundw
            case rel => exact ⟨i + 1, by omega, by omega, by go_num, by rw [HF.out]; exact HE.out.drewN _, HU.out.drewN _, HNS.out⟩
            case measure => simp [intOf]; omega
        · have hq0 : q = 0 := HQ0.out hk
          have hkb : (k == 3) = false := by simpa using hk
          clear hk
          have HF := Lib.hid (far_ne (q := q) (i := i) (by omega))
          go_upto_region 7 with (fail)
          go_quiet (fail)
          go_wp2_with fail
          go_roundw
          case rel => exact ⟨i + 1, by omega, by omega, by go_num, by rw [HF.out]; exact HE.out.drewN _, HU.out.drewN _, HNS.out⟩
          case measure => simp [intOf]; omega
      · obtain rfl : i = 7 := by omega
        have hE := HE.out
        rw [far_end hq6] at hE
        have HE2 := Lib.hid hE
        clear hE HE HU HNS HQ3 HQ0 hi1 hi7
        have HPT := Lib.hid (refPtr8_any _ v kPath _ wr HV.out (HCL.out.trans (le_below HE2.out.below)) HX.out)
        obtain ⟨a0, a1, a2, a3, a4, a5, a6, a7⟩ := HE2.out.v.eight
        obtain ⟨r2, hr2⟩ : ∃ r, ptrOf v kPath = r := ⟨_, rfl⟩
        have HR2 := Lib.hid hr2
        rw [hr2] at HPT
        clear hr2
        go_wp2_with fail
        refine HPT.out.mono ?_
        rintro e3 w3 ⟨A, cp, rfl, hsA, hcA, hcm, hll, hb3⟩
        have HE3 := Lib.hid (HE2.out.on hb3)
        have HSA := Lib.hid (hsA.keep (HE2.out.new hb3))
        clear hsA hb3 HPT HE2 a0 a1 a2 a3 a4 a5 a6 a7
        obtain ⟨o0, o1, o2, o3, o4, o5, o6, o7, o8, o9, o10⟩ := HE3.out.o.eleven
        have of := HE3.out.o.frozen
        have ol := HE3.out.o.lt
        obtain ⟨z0, z1, z2, z3, z4, z5, z6, z7, z8, z9, z10⟩ := HE3.out.r.eleven
        have zf := HE3.out.r.frozen
        have zl := HE3.out.r.lt
        by_cases hq0 : q = 0
        · have HN := Lib.hid (opn_zero (HQ.out.trans hq0))
          have hqb : ((q : Int) == 0) = true := by rw [hq0]; rfl
          clear hq0
          go_wp2_with fail
          refine bodyPost_ret (results_row (l := [_, _, _, _, _, _, _, _, _, _, _]) rfl _ _ _ rfl (HE3.out.r.set11 _ _ _ _ _ _ _ _ _ _ _) Tryz.underlying52 rfl (by kernel_rfl)) rfl ?_
          exact OpPost.no HN.out (below_set11 HE3.out.below (by omega) _ _ _ _ _ _ _ _ _ _ _)
        have hqb : ((q : Int) == 0) = false := by rw [beq_eq_false_iff_ne]; omega
        have HOP := Lib.hid (show opn v = r2.bind fun p => restOf v q p by rw [← HR2.out]; exact opn_tgt HQ.out hq0)
        clear HR2 HQ
        cases r2 with
        | none =>
          have HN := Lib.hid (show opn v = none from HOP.out)
          go_wp2_with fail
          refine bodyPost_ret (results_row (l := [_, _, _, _, _, _, _, _, _, _, _]) rfl _ _ _ rfl (HE3.out.r.set11 _ _ _ _ _ _ _ _ _ _ _) Tryz.underlying52 rfl (by kernel_rfl)) rfl ?_
          exact OpPost.no HN.out (below_set11 HE3.out.below (by omega) _ _ _ _ _ _ _ _ _ _ _)
        | some p =>
          simp only [Option.getD_some, Option.isSome_some] at HSA hcA hll ⊢
          have HOQ := Lib.hid (show opn v = restOf v q p from HOP.out)
          clear HOP z0 z1 z2 z3 z4 z5 z6 z7 z8 z9 z10 zf zl
          have HE4 := Lib.hid (HE3.out.set1 (.slice A p.length cp))
          have HSA4 := Lib.hid (HSA.out.keep (HE3.out.leSet 1 (.slice A p.length cp)))
          go_upto_region 13 with (fail)
          generalize w3.setCell ⟨g6, 1, none⟩ (.slice A p.length cp) = w4 at *
          clear HE3 HSA o0 o1 o2 o3 o4 o5 o6 o7 o8 o9 o10 of ol
          obtain ⟨o0, o1, o2, o3, o4, o5, o6, o7, o8, o9, o10⟩ := HE4.out.o.eleven
          obtain ⟨a0, a1, a2, a3, a4, a5, a6, a7⟩ := HE4.out.v.eight
          have hways : (q = 4 ∨ q = 5) ∨ q = 2 ∨ (q = 1 ∨ q = 3 ∨ q = 6) := by omega
          rcases hways with hw | hw | hw
          · -- move, copy
            have HRE := Lib.hid (show restOf v q p = (ptrOf v kFrom).map fun f => ⟨q, p, f, Ps.mkN⟩ from if_pos hw)
            have HPF := Lib.hid (refPtr8_any _ v kFrom _ w4 HV.out (HCL.out.trans (le_below HE4.out.below)) HX.out)
            obtain ⟨r3, hr3⟩ : ∃ r, ptrOf v kFrom = r := ⟨_, rfl⟩
            rw [hr3] at HPF HRE
            clear hr3
            have hqw : (((q : Int) == 4) = true) ∨ (((q : Int) == 4) = false ∧ ((q : Int) == 5) = true) := by
              rcases hw with rfl | rfl
              · exact .inl rfl
              · exact .inr ⟨rfl, rfl⟩
            clear hw
            go_cut [64] from 57 to 64 (fun v64 wc => v64 = .bool true ∧ wc = w4)
            case first =>
              rcases hqw with b4 | ⟨b4, b5⟩
              all_goals
                go_wp2_with fail
                go_meet
                case rel => exact ⟨rfl, rfl⟩
            case rest =>
            obtain ⟨rfl, rfl⟩ := hcut
            go_wp2_with fail
            refine HPF.out.mono ?_
            rintro e5 w5 ⟨F, cf, rfl, hsF, hcF, hcfm, hlf, hb5⟩
            have HE5 := Lib.hid (HE4.out.on hb5)
            have HSF := Lib.hid (hsF.keep (HE4.out.new hb5))
            have HSA5 := Lib.hid (HSA4.out.keep (HE4.out.le hb5))
            clear hsF hb5 HPF HE4 HSA4 o0 o1 o2 o3 o4 o5 o6 o7 o8 o9 o10 a0 a1 a2 a3 a4 a5 a6 a7
            obtain ⟨o0, o1, o2, o3, o4, o5, o6, o7, o8, o9, o10⟩ := HE5.out.o.eleven
            have of := HE5.out.o.frozen
            have ol := HE5.out.o.lt
            have HE6 := Lib.hid (HE5.out.set2 (.slice F (r3.getD []).length cf))
            have HSA6 := Lib.hid (HSA5.out.keep (HE5.out.leSet 2 (.slice F (r3.getD []).length cf)))
            have HSF6 := Lib.hid (HSF.out.keep (HE5.out.leSet 2 (.slice F (r3.getD []).length cf)))
            go_upto_region 16 with (fail)
            generalize w5.setCell ⟨g6, 2, none⟩ (.slice F (r3.getD []).length cf) = w6 at *
            clear HE5 HSA5 HSF o0 o1 o2 o3 o4 o5 o6 o7 o8 o9 o10 of ol
            obtain ⟨o0, o1, o2, o3, o4, o5, o6, o7, o8, o9, o10⟩ := HE6.out.o.eleven
            obtain ⟨z0, z1, z2, z3, z4, z5, z6, z7, z8, z9, z10⟩ := HE6.out.r.eleven
            have zf := HE6.out.r.frozen
            have zl := HE6.out.r.lt
            go_wp2_with fail
            refine bodyPost_ret (results_row (l := [_, _, _, _, _, _, _, _, _, _, _]) rfl _ _ _ rfl (HE6.out.r.set11 _ _ _ _ _ _ _ _ _ _ _) Tryz.underlying52 rfl (by kernel_rfl)) rfl ?_
            refine OpPost.fin (o := ⟨q, p, r3.getD [], Ps.mkN⟩) (by rw [HOQ.out, HRE.out, Option.isSome_map]) (fun o h => by rw [HOQ.out, HRE.out] at h; obtain ⟨f, rfl, rfl⟩ := Option.map_eq_some_iff.1 h; rfl)
              (OIn.keep (HE6.out.leFin _ _ _ _ _ _ _ _ _ _ _) (OIn.mk HSA6.out hcA hcm HSF6.out hcF hcfm (zero_in _))) (below_set11 HE6.out.below (by omega) _ _ _ _ _ _ _ _ _ _ _)
          · -- remove
            have HRE := Lib.hid (show restOf v q p = some ⟨q, p, [], Ps.mkN⟩ by unfold restOf; rw [if_neg (by omega), if_pos hw])
            have b4 : ((q : Int) == 4) = false := by rw [beq_eq_false_iff_ne]; omega
            have b5 : ((q : Int) == 5) = false := by rw [beq_eq_false_iff_ne]; omega
            have b2 : ((q : Int) != 2) = false := by rw [hw]; rfl
            clear hw
            obtain ⟨z0, z1, z2, z3, z4, z5, z6, z7, z8, z9, z10⟩ := HE4.out.r.eleven
            have zf := HE4.out.r.frozen
            have zl := HE4.out.r.lt
            go_wp2_with fail
            refine bodyPost_ret (results_row (l := [_, _, _, _, _, _, _, _, _, _, _]) rfl _ _ _ rfl (HE4.out.r.set11 _ _ _ _ _ _ _ _ _ _ _) Tryz.underlying52 rfl (by kernel_rfl)) rfl ?_
            refine OpPost.fin (o := ⟨q, p, [], Ps.mkN⟩) (by rw [HOQ.out, HRE.out]; rfl) (fun o h => by rw [HOQ.out, HRE.out] at h; injection h)
              (OIn.keep (HE4.out.leFin _ _ _ _ _ _ _ _ _ _ _) (OIn.mk (f := []) HSA4.out hcA hcm (strs_nil _ _) (Nat.le_refl _) (Nat.zero_le _) (zero_in _))) (below_set11 HE4.out.below (by omega) _ _ _ _ _ _ _ _ _ _ _)
          · -- add, replace, test
            have HRE := Lib.hid (show restOf v q p = (v.find kValue).map fun u => ⟨q, p, [], u⟩ by unfold restOf; rw [if_neg (by omega), if_neg (by omega)])
            have HFV := Lib.hid (refFindC_any _ v kValue _ w4 (HCL.out.trans (le_below HE4.out.below)) HX.out)
            obtain ⟨r3, hr3⟩ : ∃ r, v.find kValue = r := ⟨_, rfl⟩
            rw [hr3] at HFV HRE
            clear hr3
            have b4 : ((q : Int) == 4) = false := by rw [beq_eq_false_iff_ne]; omega
            have b5 : ((q : Int) == 5) = false := by rw [beq_eq_false_iff_ne]; omega
            have b2 : ((q : Int) != 2) = true := by rw [bne_iff_ne]; omega
            clear hw
            go_wp2_with fail
            refine HFV.out.mono ?_
            rintro e5 w5 ⟨y5, rfl, hy5, hb5⟩
            obtain ⟨j_1, j_2, j_3, j_4, j_5, j_6, j_7, j_8, j_9, j_a, j_b, j_c, rfl⟩ := In.cells hy5
            have hb5a := hb5.alloc hb5.size (.cells #[.int .i64 j_1, .bool j_2, .bool j_3, .string ⟨j_4.toArray⟩, .int .i64 j_5, .string ⟨j_6.toArray⟩, .slice j_7 j_8 j_9, .slice j_a j_b j_c] 28)
            have HE5 := Lib.hid (HE4.out.on hb5a)
            have HY5 := Lib.hid (In.keep HE5.out.leV (r3.getD Ps.mkN) _ hy5)
            have HSA5 := Lib.hid (HSA4.out.keep (HE4.out.le hb5a))
            have HJ5 := Lib.hid (Blk.new w5 28 #[.int .i64 j_1, .bool j_2, .bool j_3, .string ⟨j_4.toArray⟩, .int .i64 j_5, .string ⟨j_6.toArray⟩, .slice j_7 j_8 j_9, .slice j_a j_b j_c])
            clear hy5 hb5 hb5a HFV HE4 HSA4 o0 o1 o2 o3 o4 o5 o6 o7 o8 o9 o10 a0 a1 a2 a3 a4 a5 a6 a7
            go_upto_region 19 with (fail)
            generalize w5.alloc (.cells #[.int .i64 j_1, .bool j_2, .bool j_3, .string ⟨j_4.toArray⟩, .int .i64 j_5, .string ⟨j_6.toArray⟩, .slice j_7 j_8 j_9, .slice j_a j_b j_c] 28) = w6 at *
            generalize w5.heap.size = g7 at *
            obtain ⟨o0, o1, o2, o3, o4, o5, o6, o7, o8, o9, o10⟩ := HE5.out.o.eleven
            have of := HE5.out.o.frozen
            have ol := HE5.out.o.lt
            obtain ⟨a0, a1, a2, a3, a4, a5, a6, a7⟩ := HJ5.out.eight
            have HE6 := HE5.out.setV (.int .i64 j_1) (.bool j_2) (.bool j_3) (.string ⟨j_4.toArray⟩) (.int .i64 j_5) (.string ⟨j_6.toArray⟩) (.slice j_7 j_8 j_9) (.slice j_a j_b j_c)
            have HSA6 := HSA5.out.keep (HE5.out.leSetV (.int .i64 j_1) (.bool j_2) (.bool j_3) (.string ⟨j_4.toArray⟩) (.int .i64 j_5) (.string ⟨j_6.toArray⟩) (.slice j_7 j_8 j_9) (.slice j_a j_b j_c))
            have HY6 := In.keep (HE5.out.leSetV (.int .i64 j_1) (.bool j_2) (.bool j_3) (.string ⟨j_4.toArray⟩) (.int .i64 j_5) (.string ⟨j_6.toArray⟩) (.slice j_7 j_8 j_9) (.slice j_a j_b j_c)) _ _ HY5.out
            obtain ⟨w7, hw6⟩ : ∃ W, W = setV w6 g6 (.int .i64 j_1) (.bool j_2) (.bool j_3) (.string ⟨j_4.toArray⟩) (.int .i64 j_5) (.string ⟨j_6.toArray⟩) (.slice j_7 j_8 j_9) (.slice j_a j_b j_c) := ⟨_, rfl⟩
            rw [← hw6] at HE6 HSA6 HY6
            have HW6 := Lib.hid hw6
            have HE6 := Lib.hid HE6
            have HSA6 := Lib.hid HSA6
            have HY6 := Lib.hid HY6
            clear hw6
            go_upto_region 20 with (fail)
            rw [show ((((((((w6.setCell ⟨g6, 3, none⟩ (.int .i64 j_1)).setCell ⟨g6, 4, none⟩ (.bool j_2)).setCell ⟨g6, 5, none⟩ (.bool j_3)).setCell ⟨g6, 6, none⟩ (.string ⟨j_4.toArray⟩)).setCell ⟨g6, 7, none⟩ (.int .i64 j_5)).setCell ⟨g6, 8, none⟩ (.string ⟨j_6.toArray⟩)).setCell ⟨g6, 9, none⟩ (.slice j_7 j_8 j_9)).setCell ⟨g6, 10, none⟩ (.slice j_a j_b j_c)) = w7 from HW6.out.symm]
            clear HW6 HE5 HSA5 HY5 o0 o1 o2 o3 o4 o5 o6 o7 o8 o9 o10 of ol a0 a1 a2 a3 a4 a5 a6 a7
            obtain ⟨o0, o1, o2, o3, o4, o5, o6, o7, o8, o9, o10⟩ := HE6.out.o.eleven
            obtain ⟨z0, z1, z2, z3, z4, z5, z6, z7, z8, z9, z10⟩ := HE6.out.r.eleven
            have zf := HE6.out.r.frozen
            have zl := HE6.out.r.lt
            go_wp2_with fail
            refine bodyPost_ret (results_row (l := [_, _, _, _, _, _, _, _, _, _, _]) rfl _ _ _ rfl (HE6.out.r.set11 _ _ _ _ _ _ _ _ _ _ _) Tryz.underlying52 rfl (by kernel_rfl)) rfl ?_
            refine OpPost.fin (o := ⟨q, p, [], r3.getD Ps.mkN⟩) (by rw [HOQ.out, HRE.out, Option.isSome_map]) (fun o h => by rw [HOQ.out, HRE.out] at h; obtain ⟨f, rfl, rfl⟩ := Option.map_eq_some_iff.1 h; rfl)
              (OIn.keep (HE6.out.leFin _ _ _ _ _ _ _ _ _ _ _) (OIn.mk (f := []) HSA6.out hcA hcm (strs_nil _ _) (Nat.le_refl _) (Nat.zero_le _) HY6.out)) (below_set11 HE6.out.below (by omega) _ _ _ _ _ _ _ _ _ _ _)

end Go.Proofs.YtjjenpmahmbafaaGreatDoor

namespace Go.Proofs.YtjjenpmahmbafaaGreatDoor
open Go.RowKit Pt Js Oq

def ItO (c : Cl) (o : Opn) (cs : List Value) : Prop := o.In c (.agg cs.toArray)
theorem ItO.mono {c c' : Cl} (h : c.le c') {o : Opn} {cs : List Value} (k : ItO c o cs) : ItO c' o cs := OIn.keep h k
theorem RowG.slO {S : Nat → Prop} {w : World} {B : Nat} {A : Option Addr} {cp : Nat} {acc : List Opn} (h : RowG ItO 52 11 S w B A cp acc) : SlO (w.on (fun b => S b ∨ B ≤ b)) A acc := fun i v hi => by
  have hl := h.le
  obtain ⟨flat, hown, _, hel⟩ := h
  obtain ⟨cs, hx, hc⟩ := hel i v hi
  obtain ⟨g, rfl, hg1, hg2⟩ := hl.2.2.1 (by have := (List.getElem?_eq_some_iff.1 hi).1; omega)
  refine ⟨g, 0, .agg cs.toArray, rfl, OIn.keep (on_sub fun b h => h.1) hx, fun j u hu => ?_⟩
  rw [Nat.zero_add]
  exact on_some.2 ⟨.inr hg1, own_cell hown _ _ (hc j u (by simpa [Value.cells] using hu))⟩

def RefReadPost (S : Nat → Prop) (r : Oq.Rd) (w : World) (e : Ending) (w' : World) : Prop :=
  Below w.heap.size w w' ∧ ((∃ (l : List Opn) (A : Option Addr) (cp : Nat), r = .ok l ∧ e = .returned (.tuple #[.slice A l.length cp, .int .i64 0, .int .i64 0]) ∧ SlO (w'.on fun b => S b ∨ w.heap.size ≤ b) A l ∧ l.length ≤ cp ∧ cp ≤ maxLen) ∨
    (∃ (c i : Nat), r = .bad c i ∧ e = .returned (.tuple #[.slice none 0 0, .int .i64 c, .int .i64 i])))

structure RefRow (S : Nat → Prop) (w : World) (l : List Vl) (V : Array Value) (j : Nat) (acc : List Opn) (A : Option Addr) (cp : Nat) (wr : World) : Prop where
  hj : j ≤ l.length
  v : Blk wr w.heap.size 28 V
  row : RowG ItO 52 11 S wr (w.heap.size + 1) A cp acc
  below : Below w.heap.size w wr
  map : (l.take j).map opn = acc.map some
  hS : ∀ b, S b → b < w.heap.size
def RefReading (S : Nat → Prop) (w : World) (l : List Vl) (V : Array Value) (v5 v6 : Value) (wr : World) : Prop :=
  ∃ (j : Nat) (acc : List Opn) (A : Option Addr) (cp : Nat), v5 = .slice A acc.length cp ∧ v6 = .int .i64 j ∧ RefRow S w l V j acc A cp wr
section
variable {S : Nat → Prop} {w : World} {l : List Vl} {V : Array Value} {j : Nat} {acc : List Opn} {A : Option Addr} {cp : Nat} {wr w' : World}
theorem RefRow.acc_len (h : RefRow S w l V j acc A cp wr) : acc.length = j := by
  have := map_len h.map
  rw [List.length_take] at this
  have := h.hj
  omega
theorem RefRow.on (h : RefRow S w l V j acc A cp wr) (hb : Below wr.heap.size wr w') : RefRow S w l V j acc A cp w' :=
  ⟨h.hj, h.v.on hb, RowG.below (It := ItO) (fun h => ItO.mono h) h.row hb, h.below.trans (hb.mono h.below.size), h.map, h.hS⟩
theorem RefRow.next (h : RefRow S w l V j acc A cp wr) (hlt : j < l.length) {o : Opn} (ho : opn l[j] = some o) {flat : List Value} (hown : wr.ownsRow (w.heap.size + 1) 52 11 (.slice A acc.length cp) acc.length flat) (hone : ∀ u ∈ flat, u.oneCell' = true)
    (hel : ∀ i a, acc[i]? = some a → ∃ cs, ItO (wr.on (OffS S (w.heap.size + 1) A)) a cs ∧ ∀ (j : Nat) u, cs[j]? = some u → flat[i * 11 + j]? = some u)
    {wx w6 : World} (hb : Below wr.heap.size wr wx) {cs : Array Value} (ha : o.In (wx.on fun b => S b ∨ wr.heap.size ≤ b) (.agg cs)) (hcs : ∀ u ∈ cs.toList, u.oneCell' = true) {g cap : Nat}
    (h6 : w6.ownsRow (w.heap.size + 1) 52 11 (.slice (some ⟨g, 0, none⟩) (acc.length + 1) cap) (acc.length + 1) (flat ++ cs.toList)) (hg : wx.grownBy w6 (Value.slice A acc.length cp).ownBlock)
    (hat : (Value.slice A acc.length cp).ownBlock = some g ∨ g = wx.heap.size) : RefRow S w l V (j + 1) (acc ++ [o]) (some ⟨g, 0, none⟩) cap w6 := by
  have hrl := h.row.le
  have hA : ∀ ad, A = some ad → w.heap.size + 1 ≤ ad.block := fun ad ha => (hrl.2.2.2 ad ha).1
  have hB := h.below.trans (hb.mono h.below.size)
  have hon : ∀ k, (Value.slice A acc.length cp).ownBlock = some k → w.heap.size + 1 ≤ k := fun k hk => own_new hA hk
  have hOff : Cl.le (wx.on fun b => S b ∨ wr.heap.size ≤ b) (wx.on (OffS S (w.heap.size + 1) A)) := on_sub fun b hb' => by
    rcases hb' with k | k
    · exact ⟨.inl k, fun ad e => by have := h.hS b k; have := hA ad e; omega⟩
    · exact ⟨.inr (by have := h.v.lt; omega), fun ad e => by have := (hrl.2.2.2 ad e).2; omega⟩
  refine ⟨hlt, (h.v.on hb).grown hg (fun k hk => by have := hon k hk; omega), ?_, hB.grown hg hB.size (fun k hk => by have := hon k hk; omega), map_take hlt h.map ho, h.hS⟩
  exact RowG.push (It := ItO) (fun h => ItO.mono h) hown hone hel hb (a := o) (cs := cs.toList) (ItO.mono hOff (by show o.In _ (.agg cs.toList.toArray); simpa using ha)) hcs h6 hg hat
end

set_option linter.unusedVariables false in
set_option linter.unusedSimpArgs false in
set_option maxRecDepth 100000 in
set_option maxHeartbeats 8000000 in
theorem refRead8_any (S : Nat → Prop) (v : Vl) (x : Value) (w : World) (hS : ∀ b, S b → b < w.heap.size) (hv : Fit v) (hx : v.In (w.on S) x) :
    Calls Tryz.prog 17 #[x] w (RefReadPost S (read v) w) := by
  obtain ⟨k, b, n, s, l, m⟩ := v
  obtain ⟨A, e, B, d, rfl, q1, q2, q3, q4, q5, q6⟩ := In.form hx
  have HL := Lib.hid (show SlL (w.on S) A l from q5)
  have HV := Lib.hid hv
  have HE0 := Lib.hid (show RefRow S w l #[.int .i64 k, .bool b, .bool n.neg, .string ⟨n.digits.toArray⟩, .int .i64 n.exp, .string ⟨s.toArray⟩, .slice A l.length e, .slice B m.length d] 0 [] none 0 (w.alloc (.cells #[.int .i64 k, .bool b, .bool n.neg, .string ⟨n.digits.toArray⟩, .int .i64 n.exp, .string ⟨s.toArray⟩, .slice A l.length e, .slice B m.length d] 28)) from
    ⟨Nat.zero_le _, Blk.new _ _ _, RowG.nil _ _, (Below.refl w.heap.size w).alloc (Nat.le_refl _) _, rfl, hS⟩)
  have HRM := Lib.hid (read_mk k b n s l m)
  unfold maxLen at q2 q4
  clear q5 q6 hx hS hv
  go_enter Tryz.func17, Tryz.ntmps17
  go_upto_region 1 with (fail)
  generalize w.alloc (.cells #[.int .i64 k, .bool b, .bool n.neg, .string ⟨n.digits.toArray⟩, .int .i64 n.exp, .string ⟨s.toArray⟩, .slice A l.length e, .slice B m.length d] 28) = w0 at *
  obtain ⟨a0, a1, a2, a3, a4, a5, a6, a7⟩ := HE0.out.v.eight
  by_cases hk : k = 4
  · by_cases hbig : 100 < l.length
    · have HR := Lib.hid (show read (.mk k b n s l m) = .bad 5 100 by rw [HRM.out, if_pos hk, if_pos hbig])
      have hkb : (k != 4) = false := by simpa using hk
      have hlb : decide ((100 : Int) < (l.length : Int)) = true := by simp; omega
      clear hk
      go_wp2_with fail
      go_ret3
      exact ⟨HE0.out.below, .inr ⟨5, 100, HR.out, rfl⟩⟩
    · subst hk
      have hlb : decide ((100 : Int) < (l.length : Int)) = false := by simp; omega
      obtain ⟨i0, hi0, hz0, hz1, hz2⟩ := infoO
      have HRO := Lib.hid (show ∀ r : List Opn, l.map opn = r.map some → read (.mk 4 b n s l m) = .ok r from fun r h => read_ok (by omega) h)
      have HRS := Lib.hid (show ∀ (j : Nat) (hj : j < l.length) (a : List Opn), (l.take j).map opn = a.map some → opn (l[j]'hj) = none → read (.mk 4 b n s l m) = .bad 1 j from fun j hj a h h2 => read_stop (by omega) hj h h2)
      clear HRM
      go_wp2_with fail
      go_loopw [5, 6] (RefReading S w l #[.int .i64 4, .bool b, .bool n.neg, .string ⟨n.digits.toArray⟩, .int .i64 n.exp, .string ⟨s.toArray⟩, .slice A l.length e, .slice B m.length d]) (fun _ i _ => l.length - (intOf i).toNat)
      case atStart => exact ⟨0, [], none, 0, rfl, rfl, HE0.out⟩
      case round =>
        obtain ⟨j, acc, Ar, cp, rfl, rfl, hR⟩ := hrel
        have HR := Lib.hid hR
        have hj := hR.hj
        clear hR HE0 a0 a1 a2 a3 a4 a5 a6 a7
        obtain ⟨a0, a1, a2, a3, a4, a5, a6, a7⟩ := HR.out.v.eight
        by_cases hlt : j < l.length
        · obtain ⟨g0, o0, y, rfl, hy, hc⟩ := HL.out j _ (List.getElem?_eq_getElem hlt)
          obtain ⟨y_1, y_2, y_3, y_4, y_5, y_6, y_7, y_8, y_9, y_a, y_b, y_c, rfl⟩ := In.cells hy
          obtain ⟨e0, e1, e2, e3, e4, e5, e6, e7⟩ := (hc.keep ((on_all w S).trans (le_below HR.out.below))).eight
          have hgl := World.block_lt_of_cell? _ _ e0
          have hal : acc.length ≤ 100 := by have := HR.out.acc_len; omega
          have HS2 := Lib.hid (show ∀ b, S b → b < wr.heap.size from fun b hb => Nat.lt_of_lt_of_le (HR.out.hS b hb) HR.out.below.size)
          have HOP := Lib.hid (refOp8_any S (l[j]'hlt) _ wr HS2.out (fit_el HV.out (List.getElem_mem hlt)) (In.keep (on_keep (fun _ h _ => h) (fun b' _ h2 => HR.out.below.block b' h2)) _ _ hy))
          obtain ⟨r, hr⟩ : ∃ r, opn (l[j]'hlt) = r := ⟨_, rfl⟩
          have HRR := Lib.hid hr
          rw [hr] at HOP
          clear hr hy hc
          go_wp2_with fail
          refine HOP.out.mono ?_
          rintro e3 w3 ⟨o, y3, rfl, ho, hoi, hb3⟩
          obtain ⟨o_o, o_p, o_q, o_r, o_s, o_t, o_u, o_1, o_2, o_3, o_4, o_5, o_6, o_7, o_8, o_9, o_a, o_b, o_c, rfl⟩ := OIn.cells hoi
          have hb4 := hb3.alloc hb3.size (.cells #[.int .i64 o_o, .slice o_p o_q o_r, .slice o_s o_t o_u, .int .i64 o_1, .bool o_2, .bool o_3, .string ⟨o_4.toArray⟩, .int .i64 o_5, .string ⟨o_6.toArray⟩, .slice o_7 o_8 o_9, .slice o_a o_b o_c] 52)
          have HRW4 := Lib.hid (HR.out.on hb4)
          have HOI4 := Lib.hid (show o.In ((w3.alloc (.cells #[.int .i64 o_o, .slice o_p o_q o_r, .slice o_s o_t o_u, .int .i64 o_1, .bool o_2, .bool o_3, .string ⟨o_4.toArray⟩, .int .i64 o_5, .string ⟨o_6.toArray⟩, .slice o_7 o_8 o_9, .slice o_a o_b o_c] 52)).on fun b => S b ∨ wr.heap.size ≤ b) _ from OIn.keep (on_keep (fun b h _ => h) (fun b' _ h2 => Below.heap_alloc _ _ _ h2)) hoi)
          have HO4 := Lib.hid (Blk.new w3 52 #[.int .i64 o_o, .slice o_p o_q o_r, .slice o_s o_t o_u, .int .i64 o_1, .bool o_2, .bool o_3, .string ⟨o_4.toArray⟩, .int .i64 o_5, .string ⟨o_6.toArray⟩, .slice o_7 o_8 o_9, .slice o_a o_b o_c])
          have HB4 := Lib.hid hb4
          have HHO := Lib.hid ho
          clear hoi ho hb3 hb4 HOP a0 a1 a2 a3 a4 a5 a6 a7 e0 e1 e2 e3 e4 e5 e6 e7 hgl
          go_upto_region 10 with (fail)
          generalize w3.alloc (.cells #[.int .i64 o_o, .slice o_p o_q o_r, .slice o_s o_t o_u, .int .i64 o_1, .bool o_2, .bool o_3, .string ⟨o_4.toArray⟩, .int .i64 o_5, .string ⟨o_6.toArray⟩, .slice o_7 o_8 o_9, .slice o_a o_b o_c] 52) = w4 at *
          generalize w3.heap.size = g7 at *
          cases r with
          | none =>
            have HF := Lib.hid (HRS.out j hlt acc HRW4.out.map HRR.out)
            go_wp2_with fail
            go_ret3
            exact ⟨HRW4.out.below, .inr ⟨1, j, HF.out, rfl⟩⟩
          | some q =>
            obtain rfl := HHO.out q rfl
            obtain ⟨c0, c1, c2, c3, c4, c5, c6, c7, c8, c9, c10⟩ := HO4.out.eleven
            have ol := HO4.out.lt
            obtain ⟨flat, hown, hone, hel⟩ := HR.out.row
            have HOWN := Lib.hid hown
            have HONE := Lib.hid hone
            have HEL := Lib.hid hel
            have hb5 := HB4.out.alloc HB4.out.size (.cells #[.int .i64 o_o, .slice o_p o_q o_r, .slice o_s o_t o_u, .int .i64 o_1, .bool o_2, .bool o_3, .string ⟨o_4.toArray⟩, .int .i64 o_5, .string ⟨o_6.toArray⟩, .slice o_7 o_8 o_9, .slice o_a o_b o_c] 52)
            have HB5 := Lib.hid hb5
            have HOWN5 := Lib.hid (own_keep hown (fun k _ hk => hb5.block k hk))
            have HOI5 := Lib.hid (show o.In ((w4.alloc (.cells #[.int .i64 o_o, .slice o_p o_q o_r, .slice o_s o_t o_u, .int .i64 o_1, .bool o_2, .bool o_3, .string ⟨o_4.toArray⟩, .int .i64 o_5, .string ⟨o_6.toArray⟩, .slice o_7 o_8 o_9, .slice o_a o_b o_c] 52)).on fun b => S b ∨ wr.heap.size ≤ b) _ from OIn.keep (on_keep (fun b h _ => h) (fun b' _ h2 => Below.heap_alloc _ _ _ h2)) HOI4.out)
            have hbs := HRW4.out.v.lt
            clear hown hone hel hb5
            go_wp2_with (refine wpList_append_lies _ rfl _ _ _ rfl (w.heap.size + 1) 52 i0 _ 11 168 Tryz.underlying31 hi0 hz0 hz1 hz2 rfl (by omega) (.slice Ar acc.length cp) acc.length flat rfl HOWN5.out ⟨w4.heap.size, 0, none⟩ 1 1 [.int .i64 o_o, .slice o_p o_q o_r, .slice o_s o_t o_u, .int .i64 o_1, .bool o_2, .bool o_3, .string ⟨o_4.toArray⟩, .int .i64 o_5, .string ⟨o_6.toArray⟩, .slice o_7 o_8 o_9, .slice o_a o_b o_c] rfl rfl (World.news_of_block (heap_alloc_new w4 _)) (by simp [Value.oneCell']) (by omega) (by unfold maxLen; omega) (by omega) (by simp; omega) _ rfl ?_; intro g6 cap6 w6 hown6 hgrow6 hat6 hlt6; have HST := Lib.hid (HR.out.next hlt HRR.out HOWN.out HONE.out HEL.out HB5.out HOI5.out (by intro u hu; simp at hu; rcases hu with rfl | rfl | rfl | rfl | rfl | rfl | rfl | rfl | rfl | rfl | rfl <;> rfl) hown6 hgrow6 hat6); clear hown6 hgrow6 hat6)
            go_roundw
            case rel => exact ⟨j + 1, acc ++ [o], some ⟨g6, 0, none⟩, cap6, by rw [List.length_append]; rfl, by go_num, HST.out⟩
            case measure => simp [intOf]; omega
        · obtain rfl : j = l.length := by omega
          have HF := Lib.hid (HRO.out acc (by have := HR.out.map; rwa [List.take_length] at this))
          have hrl := HR.out.row.le
          go_wp2_with fail
          go_ret3
          exact ⟨HR.out.below, .inl ⟨acc, Ar, cp, HF.out, rfl, SlO.keep (on_sub fun b h => h.imp id (fun h => by omega)) HR.out.row.slO, hrl.1, hrl.2.1⟩⟩
  · have HR := Lib.hid (show read (.mk k b n s l m) = .bad 1 0 by rw [HRM.out, if_neg hk])
    have hkb : (k != 4) = true := by simpa using hk
    clear hk
    go_wp2_with fail
    go_ret3
    exact ⟨HE0.out.below, .inr ⟨1, 0, HR.out, rfl⟩⟩

end Go.Proofs.YtjjenpmahmbafaaGreatDoor


