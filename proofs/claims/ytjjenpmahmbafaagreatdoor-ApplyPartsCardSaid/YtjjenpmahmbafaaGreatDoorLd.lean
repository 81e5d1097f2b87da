/- Ld: Ld Le Lg Lf Lh Li, in one text. -/
import Derived.Test.YtjjenpmahmbafaaGreatDoorLa
import Derived.Test.YtjjenpmahmbafaaGreatDoorJn
import Derived.Test.YtjjenpmahmbafaaGreatDoorKa
import Derived.Test.YtjjenpmahmbafaaGreatDoorJd
import Derived.Test.YtjjenpmahmbafaaGreatDoorKf
import Derived.Deep.RegionLaw
import Derived.Deep.CutRange
namespace Go.Proofs.YtjjenpmahmbafaaGreatDoor
open Go.RowKit Js Pt

def PlaceQ : Vl → List UInt8 → Nat → Bool → Prop
  | .mk k _ _ _ l m, nm, i, b => (k = 5 ∧ Js.Found m nm i b ∧ Js.Halving m nm i i) ∨ (k = 4 ∧ index nm l.length false = (i, b)) ∨ (k ≠ 5 ∧ k ≠ 4 ∧ b = false)
def PlaceP (v : Vl) (nm : List UInt8) (w : World) (e : Ending) (w' : World) : Prop :=
  ∃ (i : Nat) (b : Bool), e = .returned (.tuple #[.int .i64 i, .bool b]) ∧ PlaceQ v nm i b ∧ Below w.heap.size w w'

set_option linter.unusedVariables false in
set_option linter.unusedSimpArgs false in
set_option maxRecDepth 100000 in
set_option maxHeartbeats 2000000 in
theorem place7_any (v : Vl) (nm : List UInt8) (x : Value) (w : World) (hv : Ed.neat v = true) (hsz : v.size ≤ 1000000) (hnm : nm.length ≤ 1000000) (hx : v.In w.cell? x) :
    Calls Tryz.prog 80 #[x, .string ⟨nm.toArray⟩] w (PlaceP v nm w) := by
  obtain ⟨k, b, n, s, l, m⟩ := v
  obtain ⟨-, -, -, -, hr⟩ := (Ed.neat_iff _ _ _ _ _ _).1 hv
  have hml : m.length ≤ 1000000 := by have := sizeM_len m; simp only [Vl.size] at hsz; omega
  have hll : l.length ≤ 1000000 := by have := sizeL_len l; simp only [Vl.size] at hsz; omega
  obtain ⟨A, e, B, d, hxe, -⟩ := In.form hx
  subst hxe
  have HB := Lib.hid (show Below w.heap.size w _ from (Below.refl _ _).alloc (Nat.le_refl _) (.cells #[.int .i64 k, .bool b, .bool n.neg, .string ⟨n.digits.toArray⟩, .int .i64 n.exp, .string ⟨s.toArray⟩, .slice A l.length e, .slice B m.length d] 28))
  by_cases h5 : k = 5
  · subst h5
    have HM := Lib.hid (member7_any 5 b n s l m nm _ _ hr hml (In.keep (le_below HB.out) _ _ hx))
    clear hx hr hv hsz
    go_enter Tryz.func80, Tryz.ntmps80
    go_wp2_with fail
    refine HM.out.mono ?_
    rintro e' w2 ⟨i, bb, rfl, hf, hh, hb2⟩
    have HF := Lib.hid hf
    have HH := Lib.hid hh
    have HB2 := Lib.hid (HB.out.trans (hb2.mono HB.out.size))
    clear hf hh hb2
    go_wp2_with fail
    go_ret2
    exact ⟨i, bb, rfl, .inl ⟨rfl, HF.out, HH.out⟩, HB2.out⟩
  · by_cases h4 : k = 4
    · subst h4
      have HI := Lib.hid (fun W => index_any nm l.length false W (by omega) (by omega))
      obtain ⟨q, hq⟩ : ∃ q, index nm l.length false = q := ⟨_, rfl⟩
      obtain ⟨qi, qb⟩ := q
      have HQ := Lib.hid hq
      rw [hq] at HI
      simp only at HI
      clear hx hr hv hsz hq h5
      go_enter Tryz.func80, Tryz.ntmps80
      go_wp2_with fail
      refine (HI.out _).mono ?_
      rintro e' w2 ⟨rfl, hb2⟩
      have HB2 := Lib.hid (HB.out.trans (hb2.mono HB.out.size))
      clear hb2
      go_wp2_with fail
      go_ret2
      exact ⟨qi, qb, rfl, .inr (.inl ⟨rfl, HQ.out⟩), HB2.out⟩
    · have h5' : (k == 5) = false := by simpa using h5
      have h4' : (k == 4) = false := by simpa using h4
      have H5 := Lib.hid h5
      have H4 := Lib.hid h4
      clear hx hr hv hsz h5 h4
      go_enter Tryz.func80, Tryz.ntmps80
      go_wp2_with fail
      go_ret2
      exact ⟨0, false, rfl, .inr (.inr ⟨H5.out, H4.out, rfl⟩), HB.out⟩

abbrev zero7 : Array Value := #[.int .i64 0, .bool false, .bool false, .string ⟨#[]⟩, .int .i64 0, .string ⟨#[]⟩, .slice none 0 0, .slice none 0 0]
theorem below_three7 (w : World) (o1 o2 o3 : Obj) : Below w.heap.size w (((w.alloc o1).alloc o2).alloc o3) := (below_two0 w o1 o2).alloc (by simp; omega) _
theorem Blk.new7 (w : World) (o1 o2 : Obj) (t : TypeId) (cs : Array Value) : Blk (((w.alloc o1).alloc o2).alloc (.cells cs t)) (w.heap.size + 2) t cs := by
  have := Blk.new ((w.alloc o1).alloc o2) t cs
  simpa using this
theorem leaf7 (c : Cl) (k : Int) (b : Bool) (n : Nm.Num) (s : List UInt8) : (Vl.mk k b n s [] []).In c (vlV k b n.neg n.digits n.exp s (.slice none 0 0) (.slice none 0 0)) := by
  simp only [Vl.In]
  exact ⟨none, 0, none, 0, rfl, Nat.le_refl _, by simp [maxLen], Nat.le_refl _, by simp [maxLen], fun h => absurd h (by simp), fun h => absurd h (by simp)⟩
theorem Blk.off7 {w : World} {g h : Nat} {t : TypeId} {cs : Array Value} (hb : Blk w g t cs) (hn : g ≠ h) (i : Nat) (u : Value) : Blk (w.setCell ⟨h, i, none⟩ u) g t cs := (Below.heap_setCell w ⟨h, i, none⟩ u g hn).trans hb

theorem slM_one {w : World} {S : Nat → Prop} {g : Nat} {t : TypeId} {nm : List UInt8} {x : Vl} {c0 c1 c2 c3 c4 c5 c6 c7 : Value} (hb : Blk w g t #[.string ⟨nm.toArray⟩, c0, c1, c2, c3, c4, c5, c6, c7]) (hg : S g)
    (hx : x.In (w.on S) (.agg #[c0, c1, c2, c3, c4, c5, c6, c7])) : SlM (w.on S) (some ⟨g, 0, none⟩) [(nm, x)] := fun i p hi => by
  have hl := (List.getElem?_eq_some_iff.1 hi).1
  obtain rfl : i = 0 := by simpa using hl
  obtain rfl : (nm, x) = p := by simpa using hi
  refine ⟨g, 0, _, rfl, hx, on_some.2 ⟨hg, hb.cell 0⟩, fun j u hu => on_some.2 ⟨hg, ?_⟩⟩
  rw [hb.cell]
  have e : (#[.string ⟨nm.toArray⟩, c0, c1, c2, c3, c4, c5, c6, c7] : Array Value) = #[.string ⟨nm.toArray⟩] ++ #[c0, c1, c2, c3, c4, c5, c6, c7] := rfl
  rw [e, show 0 + 0 * 9 + 1 + j = 1 + j by omega, Array.getElem?_append_right (by simp)]
  simpa [Value.cells] using hu
theorem slL_one {w : World} {S : Nat → Prop} {g : Nat} {t : TypeId} {x : Vl} {c0 c1 c2 c3 c4 c5 c6 c7 : Value} (hb : Blk w g t #[c0, c1, c2, c3, c4, c5, c6, c7]) (hg : S g)
    (hx : x.In (w.on S) (.agg #[c0, c1, c2, c3, c4, c5, c6, c7])) : SlL (w.on S) (some ⟨g, 0, none⟩) [x] := fun i p hi => by
  have hl := (List.getElem?_eq_some_iff.1 hi).1
  obtain rfl : i = 0 := by simpa using hl
  obtain rfl : x = p := by simpa using hi
  refine ⟨g, 0, _, rfl, hx, fun j u hu => on_some.2 ⟨hg, ?_⟩⟩
  rw [hb.cell, show 0 + 0 * 8 + j = j by omega]
  simpa [Value.cells] using hu
theorem heap_set87 (w : World) (g : Nat) (v0 v1 v2 v3 v4 v5 v6 v7 : Value) (k : Nat) (h : k ≠ g) : (set8 w g v0 v1 v2 v3 v4 v5 v6 v7).heap[k]? = w.heap[k]? := by
  unfold set8
  rw [Below.heap_setCell _ _ _ _ h, Below.heap_setCell _ _ _ _ h, Below.heap_setCell _ _ _ _ h, Below.heap_setCell _ _ _ _ h, Below.heap_setCell _ _ _ _ h, Below.heap_setCell _ _ _ _ h, Below.heap_setCell _ _ _ _ h, Below.heap_setCell _ _ _ _ h]
theorem le_written {w4 : World} {S S' : Nat → Prop} {g g2 : Nat} (h : ∀ b, S b → b ≠ g ∧ b ≠ g2) (h' : ∀ b, S b → S' b) (j7 : Nat) (u v0 v1 v2 v3 v4 v5 v6 v7 : Value) : Cl.le (w4.on S) ((set8 (w4.setCell ⟨g, j7, none⟩ u) g2 v0 v1 v2 v3 v4 v5 v6 v7).on S') := fun p z hp => by
  obtain ⟨h1, h2⟩ := on_some.1 hp
  obtain ⟨n1, n2⟩ := h _ h1
  refine on_some.2 ⟨h' _ h1, ?_⟩
  rw [World.cell?_of_block (w := w4) (by rw [heap_set87 _ _ _ _ _ _ _ _ _ _ _ n2, Below.heap_setCell _ _ _ _ n1])]
  exact h2
theorem le_written1 {w4 : World} {S S' : Nat → Prop} {g2 : Nat} (h : ∀ b, S b → b ≠ g2) (h' : ∀ b, S b → S' b) (v0 v1 v2 v3 v4 v5 v6 v7 : Value) : Cl.le (w4.on S) ((set8 w4 g2 v0 v1 v2 v3 v4 v5 v6 v7).on S') := fun p z hp => by
  obtain ⟨h1, h2⟩ := on_some.1 hp
  refine on_some.2 ⟨h' _ h1, ?_⟩
  rw [World.cell?_of_block (w := w4) (by rw [heap_set87 _ _ _ _ _ _ _ _ _ _ _ (h _ h1)])]
  exact h2
theorem on_in7 (w : World) (S : Nat → Prop) : Cl.le (w.on S) (w.on fun b => S b ∧ b < w.heap.size) := fun p u hp => by
  obtain ⟨h1, h2⟩ := on_some.1 hp
  exact on_some.2 ⟨⟨h1, World.block_lt_of_cell? w _ h2⟩, h2⟩
theorem set_mid {α : Type} (l : List α) (i : Nat) (x : α) (h : i < l.length) : l.set i x = l.take i ++ [x] ++ l.drop (i + 1) := by
  rw [List.set_eq_take_append_cons_drop, if_pos h]; simp
theorem erase_mid {α : Type} (l : List α) (i : Nat) : l.eraseIdx i = l.take i ++ [] ++ l.drop (i + 1) := by
  rw [List.eraseIdx_eq_take_drop_succ]; simp

end Go.Proofs.YtjjenpmahmbafaaGreatDoor

namespace Go.Proofs.YtjjenpmahmbafaaGreatDoor
open Go.RowKit Js Pt

set_option linter.unusedVariables false in
set_option linter.unusedSimpArgs false in
set_option maxRecDepth 100000 in
set_option maxHeartbeats 2000000 in
theorem replaced7_any (S : Nat → Prop) (v x : Vl) (nm : List UInt8) (xv xx : Value) (w : World) (hS : ∀ b, S b → b < w.heap.size) (hv : v.In (w.on S) xv) (hx : x.In (w.on S) xx) (hne : Ed.neat v = true) (hsz : v.size ≤ 1000000) (hnm : nm.length ≤ 1000000) :
    Calls Tryz.prog 63 #[xv, .string ⟨nm.toArray⟩, xx] w (EditL S (Ed.one 3 nm v x) w) := by
  have HS := Lib.hid hS
  clear hS
  obtain ⟨k, b, n, s, l, m⟩ := v
  obtain ⟨ho4, ho5, -, -, hr⟩ := (Ed.neat_iff _ _ _ _ _ _).1 hne
  have hml : m.length ≤ 1000000 := by have := sizeM_len m; simp only [Vl.size] at hsz; omega
  have hll : l.length ≤ 1000000 := by have := sizeL_len l; simp only [Vl.size] at hsz; omega
  obtain ⟨A, e, B, d, hxe, q1, q2, q3, q4, q5, q6⟩ := In.form hv
  subst hxe
  obtain ⟨x_1, x_2, x_3, x_4, x_5, x_6, x_7, x_8, x_9, x_a, x_b, x_c, rfl⟩ := In.cells hx
  have HIX := Lib.hid hx
  have HB := Lib.hid (below_three7 w (.cells #[.int .i64 k, .bool b, .bool n.neg, .string ⟨n.digits.toArray⟩, .int .i64 n.exp, .string ⟨s.toArray⟩, .slice A l.length e, .slice B m.length d] 28) (.cells #[.int .i64 x_1, .bool x_2, .bool x_3, .string ⟨x_4.toArray⟩, .int .i64 x_5, .string ⟨x_6.toArray⟩, .slice x_7 x_8 x_9, .slice x_a x_b x_c] 28) (.cells zero7 28))
  have HV := Lib.hid (((Blk.new w 28 #[.int .i64 k, .bool b, .bool n.neg, .string ⟨n.digits.toArray⟩, .int .i64 n.exp, .string ⟨s.toArray⟩, .slice A l.length e, .slice B m.length d]).alloc (.cells #[.int .i64 x_1, .bool x_2, .bool x_3, .string ⟨x_4.toArray⟩, .int .i64 x_5, .string ⟨x_6.toArray⟩, .slice x_7 x_8 x_9, .slice x_a x_b x_c] 28)).alloc (.cells zero7 28))
  have HX := Lib.hid ((Blk.new2 w (.cells #[.int .i64 k, .bool b, .bool n.neg, .string ⟨n.digits.toArray⟩, .int .i64 n.exp, .string ⟨s.toArray⟩, .slice A l.length e, .slice B m.length d] 28) 28 #[.int .i64 x_1, .bool x_2, .bool x_3, .string ⟨x_4.toArray⟩, .int .i64 x_5, .string ⟨x_6.toArray⟩, .slice x_7 x_8 x_9, .slice x_a x_b x_c]).alloc (.cells zero7 28))
  have HZ := Lib.hid (Blk.new7 w (.cells #[.int .i64 k, .bool b, .bool n.neg, .string ⟨n.digits.toArray⟩, .int .i64 n.exp, .string ⟨s.toArray⟩, .slice A l.length e, .slice B m.length d] 28) (.cells #[.int .i64 x_1, .bool x_2, .bool x_3, .string ⟨x_4.toArray⟩, .int .i64 x_5, .string ⟨x_6.toArray⟩, .slice x_7 x_8 x_9, .slice x_a x_b x_c] 28) 28 zero7)
  have HPL := Lib.hid (place7_any _ nm _ _ hne hsz hnm (In.keep ((on_all7 w S).trans (le_below HB.out)) _ _ hv))
  have HLM := Lib.hid (show SlM (w.on S) B m from q6)
  have HLL := Lib.hid (show SlL (w.on S) A l from q5)
  have HQ2 := Lib.hid q2
  have HQ4 := Lib.hid q4
  have HO4 := Lib.hid ho4
  have HO5 := Lib.hid ho5
  have HRI := Lib.hid hr
  clear hr ho4 ho5 hv hne hsz q5 q6 hx
  unfold maxLen at q2 q4
  go_enter Tryz.func63, Tryz.ntmps63
  go_wp2_with fail
  refine HPL.out.mono ?_
  rintro e' w2 ⟨i, bb, rfl, hq, hb2⟩
  have HQ := Lib.hid hq
  have HB2 := Lib.hid (HB.out.trans (hb2.mono HB.out.size))
  have HV2 := Lib.hid (HV.out.on hb2)
  have HX2 := Lib.hid (HX.out.on hb2)
  have HZ2 := Lib.hid (HZ.out.on hb2)
  clear hb2 HB HV HZ HX
  rcases hq with ⟨rfl, hf, hh⟩ | ⟨rfl, hi⟩ | ⟨h5, h4, rfl⟩
  · obtain rfl : l = [] := HO4.out (by decide)
    have hfi := Ed.find_found hf
    cases bb with
    | false =>
      have HR := Lib.hid (show Ed.one 3 nm (.mk 5 b n s [] m) x = .bad 6 by rw [Ed.one_mk, if_neg (by decide), if_pos rfl, if_neg (by rw [hfi]; decide)])
      clear hf hh hfi HQ
      obtain ⟨z0, z1, z2, z3, z4, z5, z6, z7⟩ := HZ2.out.eight
      have zf := HZ2.out.frozen
      have zl := HZ2.out.lt
      go_wp2_with fail
      refine bodyPost_ret (results_row (l := [_, _, _, _, _, _, _, _]) rfl _ _ _ rfl (HZ2.out.set8 _ _ _ _ _ _ _ _) Tryz.underlying28 rfl (by kernel_rfl)) rfl ?_
      rw [HR.out]
      exact ⟨_, rfl, leaf7 _ 0 false Nm.Num.zero [], below_set8 HB2.out (by omega) _ _ _ _ _ _ _ _⟩
    | true =>
      have HR := Lib.hid (show Ed.one 3 nm (.mk 5 b n s [] m) x = .ok (.mk 5 b n s [] (Ed.put m nm x)) by rw [Ed.one_mk, if_neg (by decide), if_pos rfl, if_pos (.inr hfi), if_neg (by decide)])
      have hil := (Ed.found_part HRI.out hh hf).1
      have HL := HLM
      have hzl := HZ2.out.lt
      have hb3 := (Below.refl w2.heap.size w2).alloc (Nat.le_refl _) (.cells #[.string ⟨nm.toArray⟩, .int .i64 x_1, .bool x_2, .bool x_3, .string ⟨x_4.toArray⟩, .int .i64 x_5, .string ⟨x_6.toArray⟩, .slice x_7 x_8 x_9, .slice x_a x_b x_c] 69)
      have HB23 := Lib.hid hb3
      have HV3 := Lib.hid (HV2.out.on hb3)
      have HZ3 := Lib.hid (HZ2.out.on hb3)
      have hin := In.keep (on_keep7 (S := S) (S' := (fun b => S b ∨ w.heap.size + 3 ≤ b)) (fun b h => .inl h) (HB2.out.trans (hb3.mono HB2.out.size))) _ _ HIX.out
      have HSP := Lib.hid (splicedM_any (fun b => S b ∨ w.heap.size + 3 ≤ b) m [(nm, x)] B (some ⟨w2.heap.size, 0, none⟩) d 1 i (i + 1) 1 (w2.alloc (.cells #[.string ⟨nm.toArray⟩, .int .i64 x_1, .bool x_2, .bool x_3, .string ⟨x_4.toArray⟩, .int .i64 x_5, .string ⟨x_6.toArray⟩, .slice x_7 x_8 x_9, .slice x_a x_b x_c] 69)) (SlM.keep (on_keep7 (S := S) (fun b h => .inl h) (HB2.out.trans (hb3.mono HB2.out.size))) HL.out) q3 HQ4.out hml (slM_one (Blk.new w2 69 #[.string ⟨nm.toArray⟩, .int .i64 x_1, .bool x_2, .bool x_3, .string ⟨x_4.toArray⟩, .int .i64 x_5, .string ⟨x_6.toArray⟩, .slice x_7 x_8 x_9, .slice x_a x_b x_c]) (.inr (by omega)) hin) (by simp) rfl (by omega) (by omega))
      rw [← Ed.put_some x HRI.out hh hf] at HSP
      clear hf hh hfi HQ
      rw [show ((i + 1 : Nat) : Int) = (i : Int) + 1 by omega] at HSP
      obtain ⟨a0, a1, a2, a3, a4, a5, a6, a7⟩ := HV2.out.eight
      have al := HV2.out.lt
      obtain ⟨x0, x1, x2, x3, x4, x5, x6, x7⟩ := HX2.out.eight
      have xl := HX2.out.lt
      clear q1 q2 q3 q4
      clear hin hb3
      generalize Ed.put m nm x = nl at *
      go_wp2_with fail
      refine HSP.out.mono ?_
      rintro e4 w4 ⟨A4, c4, rfl, p1, p2, p3, hb4⟩
      have HV4 := Lib.hid (HV3.out.on hb4)
      have HZ4 := Lib.hid (HZ3.out.on hb4)
      have HL4 := Lib.hid p3
      have HB34 := Lib.hid (HB23.out.trans (hb4.mono HB23.out.size))
      have HB4 := Lib.hid (HB2.out.trans (HB34.out.mono HB2.out.size))
      have HP := Lib.hid (And.intro p1 p2)
      obtain ⟨e0, e1, e2, e3, e4, e5, e6, e7⟩ := HV4.out.eight
      have ef := HV4.out.frozen
      have el := HV4.out.lt
      clear a0 a1 a2 a3 a4 a5 a6 a7 al p1 p2 p3 hb4 HSP HV3 HZ3
      clear x0 x1 x2 x3 x4 x5 x6 x7 xl
      go_upto_region 7 with (fail)
      have hv5 : Blk (w4.setCell ⟨w.heap.size, 7, none⟩ (.slice A4 nl.length c4)) w.heap.size 28 #[.int .i64 5, .bool b, .bool n.neg, .string ⟨n.digits.toArray⟩, .int .i64 n.exp, .string ⟨s.toArray⟩, .slice A 0 e, .slice A4 nl.length c4] := Blk.setL (l := [_, _, _, _, _, _, _, _]) HV4.out 7 _
      have HV5 := Lib.hid hv5
      have HZ5 := Lib.hid (show Blk (w4.setCell ⟨w.heap.size, 7, none⟩ (.slice A4 nl.length c4)) (w.heap.size + 2) 28 zero7 from Blk.off7 HZ4.out (by omega) _ _)
      have HB5 := Lib.hid (HB4.out.setCell (p := ⟨w.heap.size, 7, none⟩) (Nat.le_refl _) (.slice A4 nl.length c4))
      clear hv5 e0 e1 e2 e3 e4 e5 e6 e7 ef el
      generalize hw5 : w4.setCell ⟨w.heap.size, 7, none⟩ (.slice A4 nl.length c4) = w5 at *
      have HW5 := Lib.hid hw5
      clear hw5
      obtain ⟨a0, a1, a2, a3, a4, a5, a6, a7⟩ := HV5.out.eight
      have al := HV5.out.lt
      obtain ⟨z0, z1, z2, z3, z4, z5, z6, z7⟩ := HZ5.out.eight
      have zf := HZ5.out.frozen
      have zl := HZ5.out.lt
      go_wp2_with fail
      refine bodyPost_ret (results_row (l := [_, _, _, _, _, _, _, _]) rfl _ _ _ rfl (HZ5.out.set8 _ _ _ _ _ _ _ _) Tryz.underlying28 rfl (by kernel_rfl)) rfl ?_
      rw [HR.out]
      refine ⟨_, rfl, ?_, below_set8 HB5.out (by omega) _ _ _ _ _ _ _ _⟩
      rw [← HW5.out]
      exact In.mk' (slL_nil _ _) (SlM.keep (le_written (fun b h => by have := HZ4.out.lt; have := HB23.out.size; rcases h with (h | h) | h <;> first | (have := HS.out b h; omega) | omega) (fun b h => by have := HZ4.out.lt; have := HB23.out.size; rcases h with (h | h) | h <;> first | exact .inl h | exact .inr (by omega)) _ _ _ _ _ _ _ _ _ _) HL4.out) (Nat.zero_le _) HQ2.out HP.out.1 HP.out.2
  · obtain rfl : m = [] := HO5.out (by decide)
    have hie : index nm l.length (decide ((3 : Nat) = 1)) = (i, bb) := hi
    cases bb with
    | false =>
      have HR := Lib.hid (show Ed.one 3 nm (.mk 4 b n s l []) x = .bad 6 by rw [Ed.one_mk, if_pos rfl, hie, if_neg (by simp)])
      clear hi hie HQ
      obtain ⟨z0, z1, z2, z3, z4, z5, z6, z7⟩ := HZ2.out.eight
      have zf := HZ2.out.frozen
      have zl := HZ2.out.lt
      go_wp2_with fail
      refine bodyPost_ret (results_row (l := [_, _, _, _, _, _, _, _]) rfl _ _ _ rfl (HZ2.out.set8 _ _ _ _ _ _ _ _) Tryz.underlying28 rfl (by kernel_rfl)) rfl ?_
      rw [HR.out]
      exact ⟨_, rfl, leaf7 _ 0 false Nm.Num.zero [], below_set8 HB2.out (by omega) _ _ _ _ _ _ _ _⟩
    | true =>
      have HR := Lib.hid (show Ed.one 3 nm (.mk 4 b n s l []) x = .ok (.mk 4 b n s (l.set i x) []) by rw [Ed.one_mk, if_pos rfl, hie, if_pos rfl]; rfl)
      have hil : i < l.length := index_lt hi
      have HL := HLL
      clear hi hie HQ
      have hzl := HZ2.out.lt
      have hb3 := (Below.refl w2.heap.size w2).alloc (Nat.le_refl _) (.cells #[.int .i64 x_1, .bool x_2, .bool x_3, .string ⟨x_4.toArray⟩, .int .i64 x_5, .string ⟨x_6.toArray⟩, .slice x_7 x_8 x_9, .slice x_a x_b x_c] 28)
      have HB23 := Lib.hid hb3
      have HV3 := Lib.hid (HV2.out.on hb3)
      have HZ3 := Lib.hid (HZ2.out.on hb3)
      have hin := In.keep (on_keep7 (S := S) (S' := (fun b => S b ∨ w.heap.size + 3 ≤ b)) (fun b h => .inl h) (HB2.out.trans (hb3.mono HB2.out.size))) _ _ HIX.out
      have HSP := Lib.hid (splicedV_any (fun b => S b ∨ w.heap.size + 3 ≤ b) l [x] A (some ⟨w2.heap.size, 0, none⟩) e 1 i (i + 1) 1 (w2.alloc (.cells #[.int .i64 x_1, .bool x_2, .bool x_3, .string ⟨x_4.toArray⟩, .int .i64 x_5, .string ⟨x_6.toArray⟩, .slice x_7 x_8 x_9, .slice x_a x_b x_c] 28)) (SlL.keep (on_keep7 (S := S) (fun b h => .inl h) (HB2.out.trans (hb3.mono HB2.out.size))) HL.out) q1 HQ2.out hll (slL_one (Blk.new w2 28 #[.int .i64 x_1, .bool x_2, .bool x_3, .string ⟨x_4.toArray⟩, .int .i64 x_5, .string ⟨x_6.toArray⟩, .slice x_7 x_8 x_9, .slice x_a x_b x_c]) (.inr (by omega)) hin) (by simp) rfl (by omega) (by omega))
      rw [← set_mid l i x hil] at HSP
      rw [show ((i + 1 : Nat) : Int) = (i : Int) + 1 by omega] at HSP
      obtain ⟨a0, a1, a2, a3, a4, a5, a6, a7⟩ := HV2.out.eight
      have al := HV2.out.lt
      obtain ⟨x0, x1, x2, x3, x4, x5, x6, x7⟩ := HX2.out.eight
      have xl := HX2.out.lt
      clear q1 q2 q3 q4
      clear hin hb3
      generalize l.set i x = nl at *
      go_wp2_with fail
      refine HSP.out.mono ?_
      rintro e4 w4 ⟨A4, c4, rfl, p1, p2, p3, hb4⟩
      have HV4 := Lib.hid (HV3.out.on hb4)
      have HZ4 := Lib.hid (HZ3.out.on hb4)
      have HL4 := Lib.hid p3
      have HB34 := Lib.hid (HB23.out.trans (hb4.mono HB23.out.size))
      have HB4 := Lib.hid (HB2.out.trans (HB34.out.mono HB2.out.size))
      have HP := Lib.hid (And.intro p1 p2)
      obtain ⟨e0, e1, e2, e3, e4, e5, e6, e7⟩ := HV4.out.eight
      have ef := HV4.out.frozen
      have el := HV4.out.lt
      clear a0 a1 a2 a3 a4 a5 a6 a7 al p1 p2 p3 hb4 HSP HV3 HZ3
      clear x0 x1 x2 x3 x4 x5 x6 x7 xl
      go_upto_region 7 with (fail)
      have hv5 : Blk (w4.setCell ⟨w.heap.size, 6, none⟩ (.slice A4 nl.length c4)) w.heap.size 28 #[.int .i64 4, .bool b, .bool n.neg, .string ⟨n.digits.toArray⟩, .int .i64 n.exp, .string ⟨s.toArray⟩, .slice A4 nl.length c4, .slice B 0 d] := Blk.setL (l := [_, _, _, _, _, _, _, _]) HV4.out 6 _
      have HV5 := Lib.hid hv5
      have HZ5 := Lib.hid (show Blk (w4.setCell ⟨w.heap.size, 6, none⟩ (.slice A4 nl.length c4)) (w.heap.size + 2) 28 zero7 from Blk.off7 HZ4.out (by omega) _ _)
      have HB5 := Lib.hid (HB4.out.setCell (p := ⟨w.heap.size, 6, none⟩) (Nat.le_refl _) (.slice A4 nl.length c4))
      clear hv5 e0 e1 e2 e3 e4 e5 e6 e7 ef el
      generalize hw5 : w4.setCell ⟨w.heap.size, 6, none⟩ (.slice A4 nl.length c4) = w5 at *
      have HW5 := Lib.hid hw5
      clear hw5
      obtain ⟨a0, a1, a2, a3, a4, a5, a6, a7⟩ := HV5.out.eight
      have al := HV5.out.lt
      obtain ⟨z0, z1, z2, z3, z4, z5, z6, z7⟩ := HZ5.out.eight
      have zf := HZ5.out.frozen
      have zl := HZ5.out.lt
      go_wp2_with fail
      refine bodyPost_ret (results_row (l := [_, _, _, _, _, _, _, _]) rfl _ _ _ rfl (HZ5.out.set8 _ _ _ _ _ _ _ _) Tryz.underlying28 rfl (by kernel_rfl)) rfl ?_
      rw [HR.out]
      refine ⟨_, rfl, ?_, below_set8 HB5.out (by omega) _ _ _ _ _ _ _ _⟩
      rw [← HW5.out]
      exact In.mk' (SlL.keep (le_written (fun b h => by have := HZ4.out.lt; have := HB23.out.size; rcases h with (h | h) | h <;> first | (have := HS.out b h; omega) | omega) (fun b h => by have := HZ4.out.lt; have := HB23.out.size; rcases h with (h | h) | h <;> first | exact .inl h | exact .inr (by omega)) _ _ _ _ _ _ _ _ _ _) HL4.out) (slM_nil _ _) HP.out.1 HP.out.2 (Nat.zero_le _) HQ4.out
  · have HR := Lib.hid (show Ed.one 3 nm (.mk k b n s l m) x = .bad 6 by rw [Ed.one_mk, if_neg h4, if_neg h5])
    clear h5 h4 HQ
    obtain ⟨z0, z1, z2, z3, z4, z5, z6, z7⟩ := HZ2.out.eight
    have zf := HZ2.out.frozen
    have zl := HZ2.out.lt
    go_wp2_with fail
    refine bodyPost_ret (results_row (l := [_, _, _, _, _, _, _, _]) rfl _ _ _ rfl (HZ2.out.set8 _ _ _ _ _ _ _ _) Tryz.underlying28 rfl (by kernel_rfl)) rfl ?_
    rw [HR.out]
    exact ⟨_, rfl, leaf7 _ 0 false Nm.Num.zero [], below_set8 HB2.out (by omega) _ _ _ _ _ _ _ _⟩

end Go.Proofs.YtjjenpmahmbafaaGreatDoor

namespace Go.Proofs.YtjjenpmahmbafaaGreatDoor
open Go.RowKit Js Pt

theorem index_le7 {nm : List UInt8} {n i : Nat} (h : index nm n true = (i, true)) : i ≤ n := by
  have h2 : (index nm n true).2 = true := by rw [h]
  rcases Ed.index_true h2 with ⟨_, _, h3⟩ | ⟨_, _, h3, h4⟩
  · rw [h] at h3; exact Nat.le_of_eq h3
  · rw [h] at h3; simp only at h3; omega

set_option linter.unusedVariables false in
set_option linter.unusedSimpArgs false in
set_option maxRecDepth 100000 in
set_option maxHeartbeats 2000000 in
theorem added7_any (S : Nat → Prop) (v x : Vl) (nm : List UInt8) (xv xx : Value) (w : World) (hS : ∀ b, S b → b < w.heap.size) (hv : v.In (w.on S) xv) (hx : x.In (w.on S) xx) (hne : Ed.neat v = true) (hsz : v.size ≤ 1000000) (hnm : nm.length ≤ 1000000) :
    Calls Tryz.prog 60 #[xv, .string ⟨nm.toArray⟩, xx] w (EditL S (Ed.one 1 nm v x) w) := by
  have HS := Lib.hid hS
  clear hS
  obtain ⟨k, b, n, s, l, m⟩ := v
  obtain ⟨ho4, ho5, -, -, hr⟩ := (Ed.neat_iff _ _ _ _ _ _).1 hne
  have hml : m.length ≤ 1000000 := by have := sizeM_len m; simp only [Vl.size] at hsz; omega
  have hll : l.length ≤ 1000000 := by have := sizeL_len l; simp only [Vl.size] at hsz; omega
  obtain ⟨A, e, B, d, hxe, q1, q2, q3, q4, q5, q6⟩ := In.form hv
  subst hxe
  obtain ⟨x_1, x_2, x_3, x_4, x_5, x_6, x_7, x_8, x_9, x_a, x_b, x_c, rfl⟩ := In.cells hx
  have HIX := Lib.hid hx
  have HB := Lib.hid (below_three7 w (.cells #[.int .i64 k, .bool b, .bool n.neg, .string ⟨n.digits.toArray⟩, .int .i64 n.exp, .string ⟨s.toArray⟩, .slice A l.length e, .slice B m.length d] 28) (.cells #[.int .i64 x_1, .bool x_2, .bool x_3, .string ⟨x_4.toArray⟩, .int .i64 x_5, .string ⟨x_6.toArray⟩, .slice x_7 x_8 x_9, .slice x_a x_b x_c] 28) (.cells zero7 28))
  have HV := Lib.hid (((Blk.new w 28 #[.int .i64 k, .bool b, .bool n.neg, .string ⟨n.digits.toArray⟩, .int .i64 n.exp, .string ⟨s.toArray⟩, .slice A l.length e, .slice B m.length d]).alloc (.cells #[.int .i64 x_1, .bool x_2, .bool x_3, .string ⟨x_4.toArray⟩, .int .i64 x_5, .string ⟨x_6.toArray⟩, .slice x_7 x_8 x_9, .slice x_a x_b x_c] 28)).alloc (.cells zero7 28))
  have HX := Lib.hid ((Blk.new2 w (.cells #[.int .i64 k, .bool b, .bool n.neg, .string ⟨n.digits.toArray⟩, .int .i64 n.exp, .string ⟨s.toArray⟩, .slice A l.length e, .slice B m.length d] 28) 28 #[.int .i64 x_1, .bool x_2, .bool x_3, .string ⟨x_4.toArray⟩, .int .i64 x_5, .string ⟨x_6.toArray⟩, .slice x_7 x_8 x_9, .slice x_a x_b x_c]).alloc (.cells zero7 28))
  have HZ := Lib.hid (Blk.new7 w (.cells #[.int .i64 k, .bool b, .bool n.neg, .string ⟨n.digits.toArray⟩, .int .i64 n.exp, .string ⟨s.toArray⟩, .slice A l.length e, .slice B m.length d] 28) (.cells #[.int .i64 x_1, .bool x_2, .bool x_3, .string ⟨x_4.toArray⟩, .int .i64 x_5, .string ⟨x_6.toArray⟩, .slice x_7 x_8 x_9, .slice x_a x_b x_c] 28) 28 zero7)
  have HMB := Lib.hid (fun (h5 : k = 5) => member7_any k b n s l m nm _ _ hr hml (In.keep ((on_all7 w S).trans (le_below HB.out)) _ _ hv))
  have HIX := Lib.hid hx
  have HLM := Lib.hid (show SlM (w.on S) B m from q6)
  have HLL := Lib.hid (show SlL (w.on S) A l from q5)
  have HQ2 := Lib.hid q2
  have HQ4 := Lib.hid q4
  have HO4 := Lib.hid ho4
  have HO5 := Lib.hid ho5
  have HRI := Lib.hid hr
  clear hr ho4 ho5 hv hne hsz q5 q6 hx
  unfold maxLen at q2 q4
  by_cases h5 : k = 5
  · subst h5
    obtain rfl : l = [] := HO4.out (by decide)
    have HR := Lib.hid (show Ed.one 1 nm (.mk 5 b n s [] m) x = .ok (.mk 5 b n s [] (Ed.put m nm x)) by rw [Ed.one_mk, if_neg (by decide), if_pos rfl, if_pos (.inl rfl), if_neg (by decide)])
    have HM5 := Lib.hid (HMB.out rfl)
    clear HMB
    go_enter Tryz.func60, Tryz.ntmps60
    go_wp2_with fail
    refine HM5.out.mono ?_
    rintro e' w2 ⟨i, bb, rfl, hf, hh, hb2⟩
    have HB2 := Lib.hid (HB.out.trans (hb2.mono HB.out.size))
    have HV2 := Lib.hid (HV.out.on hb2)
    have HX2 := Lib.hid (HX.out.on hb2)
    have HZ2 := Lib.hid (HZ.out.on hb2)
    clear hb2 HB HV HZ HX
    have HL := HLM
    have hil := hf.1
    cases bb with
    | false =>
      have hzl := HZ2.out.lt
      have hb3 := (Below.refl w2.heap.size w2).alloc (Nat.le_refl _) (.cells #[.string ⟨nm.toArray⟩, .int .i64 x_1, .bool x_2, .bool x_3, .string ⟨x_4.toArray⟩, .int .i64 x_5, .string ⟨x_6.toArray⟩, .slice x_7 x_8 x_9, .slice x_a x_b x_c] 69)
      have HB23 := Lib.hid hb3
      have HV3 := Lib.hid (HV2.out.on hb3)
      have HZ3 := Lib.hid (HZ2.out.on hb3)
      have hin := In.keep (on_keep7 (S := S) (S' := (fun b => S b ∨ w.heap.size + 3 ≤ b)) (fun b h => .inl h) (HB2.out.trans (hb3.mono HB2.out.size))) _ _ HIX.out
      have HSP := Lib.hid (splicedM_any (fun b => S b ∨ w.heap.size + 3 ≤ b) m [(nm, x)] B (some ⟨w2.heap.size, 0, none⟩) d 1 i i 1 (w2.alloc (.cells #[.string ⟨nm.toArray⟩, .int .i64 x_1, .bool x_2, .bool x_3, .string ⟨x_4.toArray⟩, .int .i64 x_5, .string ⟨x_6.toArray⟩, .slice x_7 x_8 x_9, .slice x_a x_b x_c] 69)) (SlM.keep (on_keep7 (S := S) (fun b h => .inl h) (HB2.out.trans (hb3.mono HB2.out.size))) HL.out) q3 HQ4.out hml (slM_one (Blk.new w2 69 #[.string ⟨nm.toArray⟩, .int .i64 x_1, .bool x_2, .bool x_3, .string ⟨x_4.toArray⟩, .int .i64 x_5, .string ⟨x_6.toArray⟩, .slice x_7 x_8 x_9, .slice x_a x_b x_c]) (.inr (by omega)) hin) (by simp) rfl (by omega) (by omega))
      rw [← Ed.put_none x hh hf] at HSP
      clear hf hh
      obtain ⟨a0, a1, a2, a3, a4, a5, a6, a7⟩ := HV2.out.eight
      have al := HV2.out.lt
      obtain ⟨x0, x1, x2, x3, x4, x5, x6, x7⟩ := HX2.out.eight
      have xl := HX2.out.lt
      clear q1 q2 q3 q4
      clear hin hb3
      generalize Ed.put m nm x = nl at *
      go_wp2_with fail
      refine HSP.out.mono ?_
      rintro e4 w4 ⟨A4, c4, rfl, p1, p2, p3, hb4⟩
      have HV4 := Lib.hid (HV3.out.on hb4)
      have HZ4 := Lib.hid (HZ3.out.on hb4)
      have HL4 := Lib.hid p3
      have HB34 := Lib.hid (HB23.out.trans (hb4.mono HB23.out.size))
      have HB4 := Lib.hid (HB2.out.trans (HB34.out.mono HB2.out.size))
      have HP := Lib.hid (And.intro p1 p2)
      obtain ⟨e0, e1, e2, e3, e4, e5, e6, e7⟩ := HV4.out.eight
      have ef := HV4.out.frozen
      have el := HV4.out.lt
      clear a0 a1 a2 a3 a4 a5 a6 a7 al p1 p2 p3 hb4 HSP HV3 HZ3
      clear x0 x1 x2 x3 x4 x5 x6 x7 xl
      go_upto_region 8 with (fail)
      have hv5 : Blk (w4.setCell ⟨w.heap.size, 7, none⟩ (.slice A4 nl.length c4)) w.heap.size 28 #[.int .i64 5, .bool b, .bool n.neg, .string ⟨n.digits.toArray⟩, .int .i64 n.exp, .string ⟨s.toArray⟩, .slice A 0 e, .slice A4 nl.length c4] := Blk.setL (l := [_, _, _, _, _, _, _, _]) HV4.out 7 _
      have HV5 := Lib.hid hv5
      have HZ5 := Lib.hid (show Blk (w4.setCell ⟨w.heap.size, 7, none⟩ (.slice A4 nl.length c4)) (w.heap.size + 2) 28 zero7 from Blk.off7 HZ4.out (by omega) _ _)
      have HB5 := Lib.hid (HB4.out.setCell (p := ⟨w.heap.size, 7, none⟩) (Nat.le_refl _) (.slice A4 nl.length c4))
      clear hv5 e0 e1 e2 e3 e4 e5 e6 e7 ef el
      generalize hw5 : w4.setCell ⟨w.heap.size, 7, none⟩ (.slice A4 nl.length c4) = w5 at *
      have HW5 := Lib.hid hw5
      clear hw5
      obtain ⟨a0, a1, a2, a3, a4, a5, a6, a7⟩ := HV5.out.eight
      have al := HV5.out.lt
      obtain ⟨z0, z1, z2, z3, z4, z5, z6, z7⟩ := HZ5.out.eight
      have zf := HZ5.out.frozen
      have zl := HZ5.out.lt
      go_wp2_with fail
      refine bodyPost_ret (results_row (l := [_, _, _, _, _, _, _, _]) rfl _ _ _ rfl (HZ5.out.set8 _ _ _ _ _ _ _ _) Tryz.underlying28 rfl (by kernel_rfl)) rfl ?_
      rw [HR.out]
      refine ⟨_, rfl, ?_, below_set8 HB5.out (by omega) _ _ _ _ _ _ _ _⟩
      rw [← HW5.out]
      exact In.mk' (slL_nil _ _) (SlM.keep (le_written (fun b h => by have := HZ4.out.lt; have := HB23.out.size; rcases h with (h | h) | h <;> first | (have := HS.out b h; omega) | omega) (fun b h => by have := HZ4.out.lt; have := HB23.out.size; rcases h with (h | h) | h <;> first | exact .inl h | exact .inr (by omega)) _ _ _ _ _ _ _ _ _ _) HL4.out) (Nat.zero_le _) HQ2.out HP.out.1 HP.out.2
    | true =>
      have hil := (Ed.found_part HRI.out hh hf).1
      have hzl := HZ2.out.lt
      have hb3 := (Below.refl w2.heap.size w2).alloc (Nat.le_refl _) (.cells #[.string ⟨nm.toArray⟩, .int .i64 x_1, .bool x_2, .bool x_3, .string ⟨x_4.toArray⟩, .int .i64 x_5, .string ⟨x_6.toArray⟩, .slice x_7 x_8 x_9, .slice x_a x_b x_c] 69)
      have HB23 := Lib.hid hb3
      have HV3 := Lib.hid (HV2.out.on hb3)
      have HZ3 := Lib.hid (HZ2.out.on hb3)
      have hin := In.keep (on_keep7 (S := S) (S' := (fun b => S b ∨ w.heap.size + 3 ≤ b)) (fun b h => .inl h) (HB2.out.trans (hb3.mono HB2.out.size))) _ _ HIX.out
      have HSP := Lib.hid (splicedM_any (fun b => S b ∨ w.heap.size + 3 ≤ b) m [(nm, x)] B (some ⟨w2.heap.size, 0, none⟩) d 1 i (i + 1) 1 (w2.alloc (.cells #[.string ⟨nm.toArray⟩, .int .i64 x_1, .bool x_2, .bool x_3, .string ⟨x_4.toArray⟩, .int .i64 x_5, .string ⟨x_6.toArray⟩, .slice x_7 x_8 x_9, .slice x_a x_b x_c] 69)) (SlM.keep (on_keep7 (S := S) (fun b h => .inl h) (HB2.out.trans (hb3.mono HB2.out.size))) HL.out) q3 HQ4.out hml (slM_one (Blk.new w2 69 #[.string ⟨nm.toArray⟩, .int .i64 x_1, .bool x_2, .bool x_3, .string ⟨x_4.toArray⟩, .int .i64 x_5, .string ⟨x_6.toArray⟩, .slice x_7 x_8 x_9, .slice x_a x_b x_c]) (.inr (by omega)) hin) (by simp) rfl (by omega) (by omega))
      rw [← Ed.put_some x HRI.out hh hf] at HSP
      clear hf hh
      rw [show ((i + 1 : Nat) : Int) = (i : Int) + 1 by omega] at HSP
      obtain ⟨a0, a1, a2, a3, a4, a5, a6, a7⟩ := HV2.out.eight
      have al := HV2.out.lt
      obtain ⟨x0, x1, x2, x3, x4, x5, x6, x7⟩ := HX2.out.eight
      have xl := HX2.out.lt
      clear q1 q2 q3 q4
      clear hin hb3
      generalize Ed.put m nm x = nl at *
      go_wp2_with fail
      refine HSP.out.mono ?_
      rintro e4 w4 ⟨A4, c4, rfl, p1, p2, p3, hb4⟩
      have HV4 := Lib.hid (HV3.out.on hb4)
      have HZ4 := Lib.hid (HZ3.out.on hb4)
      have HL4 := Lib.hid p3
      have HB34 := Lib.hid (HB23.out.trans (hb4.mono HB23.out.size))
      have HB4 := Lib.hid (HB2.out.trans (HB34.out.mono HB2.out.size))
      have HP := Lib.hid (And.intro p1 p2)
      obtain ⟨e0, e1, e2, e3, e4, e5, e6, e7⟩ := HV4.out.eight
      have ef := HV4.out.frozen
      have el := HV4.out.lt
      clear a0 a1 a2 a3 a4 a5 a6 a7 al p1 p2 p3 hb4 HSP HV3 HZ3
      clear x0 x1 x2 x3 x4 x5 x6 x7 xl
      go_upto_region 8 with (fail)
      have hv5 : Blk (w4.setCell ⟨w.heap.size, 7, none⟩ (.slice A4 nl.length c4)) w.heap.size 28 #[.int .i64 5, .bool b, .bool n.neg, .string ⟨n.digits.toArray⟩, .int .i64 n.exp, .string ⟨s.toArray⟩, .slice A 0 e, .slice A4 nl.length c4] := Blk.setL (l := [_, _, _, _, _, _, _, _]) HV4.out 7 _
      have HV5 := Lib.hid hv5
      have HZ5 := Lib.hid (show Blk (w4.setCell ⟨w.heap.size, 7, none⟩ (.slice A4 nl.length c4)) (w.heap.size + 2) 28 zero7 from Blk.off7 HZ4.out (by omega) _ _)
      have HB5 := Lib.hid (HB4.out.setCell (p := ⟨w.heap.size, 7, none⟩) (Nat.le_refl _) (.slice A4 nl.length c4))
      clear hv5 e0 e1 e2 e3 e4 e5 e6 e7 ef el
      generalize hw5 : w4.setCell ⟨w.heap.size, 7, none⟩ (.slice A4 nl.length c4) = w5 at *
      have HW5 := Lib.hid hw5
      clear hw5
      obtain ⟨a0, a1, a2, a3, a4, a5, a6, a7⟩ := HV5.out.eight
      have al := HV5.out.lt
      obtain ⟨z0, z1, z2, z3, z4, z5, z6, z7⟩ := HZ5.out.eight
      have zf := HZ5.out.frozen
      have zl := HZ5.out.lt
      go_wp2_with fail
      refine bodyPost_ret (results_row (l := [_, _, _, _, _, _, _, _]) rfl _ _ _ rfl (HZ5.out.set8 _ _ _ _ _ _ _ _) Tryz.underlying28 rfl (by kernel_rfl)) rfl ?_
      rw [HR.out]
      refine ⟨_, rfl, ?_, below_set8 HB5.out (by omega) _ _ _ _ _ _ _ _⟩
      rw [← HW5.out]
      exact In.mk' (slL_nil _ _) (SlM.keep (le_written (fun b h => by have := HZ4.out.lt; have := HB23.out.size; rcases h with (h | h) | h <;> first | (have := HS.out b h; omega) | omega) (fun b h => by have := HZ4.out.lt; have := HB23.out.size; rcases h with (h | h) | h <;> first | exact .inl h | exact .inr (by omega)) _ _ _ _ _ _ _ _ _ _) HL4.out) (Nat.zero_le _) HQ2.out HP.out.1 HP.out.2
  · clear HMB
    by_cases h4 : k = 4
    · subst h4
      obtain rfl : m = [] := HO5.out (by decide)
      have HI := Lib.hid (fun W => index_any nm l.length true W (by omega) (by omega))
      obtain ⟨q, hq⟩ : ∃ q, index nm l.length true = q := ⟨_, rfl⟩
      obtain ⟨i, bb⟩ := q
      have HQ := Lib.hid hq
      rw [hq] at HI
      simp only at HI
      clear hq h5
      go_enter Tryz.func60, Tryz.ntmps60
      go_wp2_with fail
      refine (HI.out _).mono ?_
      rintro e' w2 ⟨rfl, hb2⟩
      have HB2 := Lib.hid (HB.out.trans (hb2.mono HB.out.size))
      have HV2 := Lib.hid (HV.out.on hb2)
      have HX2 := Lib.hid (HX.out.on hb2)
      have HZ2 := Lib.hid (HZ.out.on hb2)
      clear hb2 HB HV HZ HX
      have hie : index nm l.length (decide ((1 : Nat) = 1)) = (i, bb) := HQ.out
      cases bb with
      | false =>
        have HR := Lib.hid (show Ed.one 1 nm (.mk 4 b n s l []) x = .bad 6 by rw [Ed.one_mk, if_pos rfl, hie, if_neg (by simp)])
        clear hie HI
        obtain ⟨z0, z1, z2, z3, z4, z5, z6, z7⟩ := HZ2.out.eight
        have zf := HZ2.out.frozen
        have zl := HZ2.out.lt
        go_wp2_with fail
        refine bodyPost_ret (results_row (l := [_, _, _, _, _, _, _, _]) rfl _ _ _ rfl (HZ2.out.set8 _ _ _ _ _ _ _ _) Tryz.underlying28 rfl (by kernel_rfl)) rfl ?_
        rw [HR.out]
        exact ⟨_, rfl, leaf7 _ 0 false Nm.Num.zero [], below_set8 HB2.out (by omega) _ _ _ _ _ _ _ _⟩
      | true =>
        have HR := Lib.hid (show Ed.one 1 nm (.mk 4 b n s l []) x = .ok (.mk 4 b n s (l.take i ++ [x] ++ l.drop i) []) by rw [Ed.one_mk, if_pos rfl, hie, if_pos rfl]; simp [Ed.inL])
        have hil : i ≤ l.length := index_le7 HQ.out
        have HL := HLL
        clear hie HI
        have hzl := HZ2.out.lt
        have hb3 := (Below.refl w2.heap.size w2).alloc (Nat.le_refl _) (.cells #[.int .i64 x_1, .bool x_2, .bool x_3, .string ⟨x_4.toArray⟩, .int .i64 x_5, .string ⟨x_6.toArray⟩, .slice x_7 x_8 x_9, .slice x_a x_b x_c] 28)
        have HB23 := Lib.hid hb3
        have HV3 := Lib.hid (HV2.out.on hb3)
        have HZ3 := Lib.hid (HZ2.out.on hb3)
        have hin := In.keep (on_keep7 (S := S) (S' := (fun b => S b ∨ w.heap.size + 3 ≤ b)) (fun b h => .inl h) (HB2.out.trans (hb3.mono HB2.out.size))) _ _ HIX.out
        have HSP := Lib.hid (splicedV_any (fun b => S b ∨ w.heap.size + 3 ≤ b) l [x] A (some ⟨w2.heap.size, 0, none⟩) e 1 i i 1 (w2.alloc (.cells #[.int .i64 x_1, .bool x_2, .bool x_3, .string ⟨x_4.toArray⟩, .int .i64 x_5, .string ⟨x_6.toArray⟩, .slice x_7 x_8 x_9, .slice x_a x_b x_c] 28)) (SlL.keep (on_keep7 (S := S) (fun b h => .inl h) (HB2.out.trans (hb3.mono HB2.out.size))) HL.out) q1 HQ2.out hll (slL_one (Blk.new w2 28 #[.int .i64 x_1, .bool x_2, .bool x_3, .string ⟨x_4.toArray⟩, .int .i64 x_5, .string ⟨x_6.toArray⟩, .slice x_7 x_8 x_9, .slice x_a x_b x_c]) (.inr (by omega)) hin) (by simp) rfl (by omega) (by omega))
        obtain ⟨a0, a1, a2, a3, a4, a5, a6, a7⟩ := HV2.out.eight
        have al := HV2.out.lt
        obtain ⟨x0, x1, x2, x3, x4, x5, x6, x7⟩ := HX2.out.eight
        have xl := HX2.out.lt
        clear q1 q2 q3 q4
        clear hin hb3
        generalize (l.take i ++ [x] ++ l.drop i) = nl at *
        go_wp2_with fail
        refine HSP.out.mono ?_
        rintro e4 w4 ⟨A4, c4, rfl, p1, p2, p3, hb4⟩
        have HV4 := Lib.hid (HV3.out.on hb4)
        have HZ4 := Lib.hid (HZ3.out.on hb4)
        have HL4 := Lib.hid p3
        have HB34 := Lib.hid (HB23.out.trans (hb4.mono HB23.out.size))
        have HB4 := Lib.hid (HB2.out.trans (HB34.out.mono HB2.out.size))
        have HP := Lib.hid (And.intro p1 p2)
        obtain ⟨e0, e1, e2, e3, e4, e5, e6, e7⟩ := HV4.out.eight
        have ef := HV4.out.frozen
        have el := HV4.out.lt
        clear a0 a1 a2 a3 a4 a5 a6 a7 al p1 p2 p3 hb4 HSP HV3 HZ3
        clear x0 x1 x2 x3 x4 x5 x6 x7 xl
        go_upto_region 14 with (fail)
        have hv5 : Blk (w4.setCell ⟨w.heap.size, 6, none⟩ (.slice A4 nl.length c4)) w.heap.size 28 #[.int .i64 4, .bool b, .bool n.neg, .string ⟨n.digits.toArray⟩, .int .i64 n.exp, .string ⟨s.toArray⟩, .slice A4 nl.length c4, .slice B 0 d] := Blk.setL (l := [_, _, _, _, _, _, _, _]) HV4.out 6 _
        have HV5 := Lib.hid hv5
        have HZ5 := Lib.hid (show Blk (w4.setCell ⟨w.heap.size, 6, none⟩ (.slice A4 nl.length c4)) (w.heap.size + 2) 28 zero7 from Blk.off7 HZ4.out (by omega) _ _)
        have HB5 := Lib.hid (HB4.out.setCell (p := ⟨w.heap.size, 6, none⟩) (Nat.le_refl _) (.slice A4 nl.length c4))
        clear hv5 e0 e1 e2 e3 e4 e5 e6 e7 ef el
        generalize hw5 : w4.setCell ⟨w.heap.size, 6, none⟩ (.slice A4 nl.length c4) = w5 at *
        have HW5 := Lib.hid hw5
        clear hw5
        obtain ⟨a0, a1, a2, a3, a4, a5, a6, a7⟩ := HV5.out.eight
        have al := HV5.out.lt
        obtain ⟨z0, z1, z2, z3, z4, z5, z6, z7⟩ := HZ5.out.eight
        have zf := HZ5.out.frozen
        have zl := HZ5.out.lt
        go_wp2_with fail
        refine bodyPost_ret (results_row (l := [_, _, _, _, _, _, _, _]) rfl _ _ _ rfl (HZ5.out.set8 _ _ _ _ _ _ _ _) Tryz.underlying28 rfl (by kernel_rfl)) rfl ?_
        rw [HR.out]
        refine ⟨_, rfl, ?_, below_set8 HB5.out (by omega) _ _ _ _ _ _ _ _⟩
        rw [← HW5.out]
        exact In.mk' (SlL.keep (le_written (fun b h => by have := HZ4.out.lt; have := HB23.out.size; rcases h with (h | h) | h <;> first | (have := HS.out b h; omega) | omega) (fun b h => by have := HZ4.out.lt; have := HB23.out.size; rcases h with (h | h) | h <;> first | exact .inl h | exact .inr (by omega)) _ _ _ _ _ _ _ _ _ _) HL4.out) (slM_nil _ _) HP.out.1 HP.out.2 (Nat.zero_le _) HQ4.out
    · have HR := Lib.hid (show Ed.one 1 nm (.mk k b n s l m) x = .bad 6 by rw [Ed.one_mk, if_neg h4, if_neg h5])
      have HZ2 := HZ
      have HB2 := HB
      have h5' : (k == 5) = false := by simpa using h5
      have h4' : (k == 4) = false := by simpa using h4
      clear h5 h4
      obtain ⟨z0, z1, z2, z3, z4, z5, z6, z7⟩ := HZ2.out.eight
      have zf := HZ2.out.frozen
      have zl := HZ2.out.lt
      go_enter Tryz.func60, Tryz.ntmps60
      go_wp2_with fail
      refine bodyPost_ret (results_row (l := [_, _, _, _, _, _, _, _]) rfl _ _ _ rfl HZ2.out Tryz.underlying28 rfl (by kernel_rfl)) rfl ?_
      rw [HR.out]
      exact ⟨_, rfl, leaf7 _ 0 false Nm.Num.zero [], HB2.out⟩

end Go.Proofs.YtjjenpmahmbafaaGreatDoor

namespace Go.Proofs.YtjjenpmahmbafaaGreatDoor
open Go.RowKit Js Pt

set_option linter.unusedVariables false in
set_option linter.unusedSimpArgs false in
set_option maxRecDepth 100000 in
set_option maxHeartbeats 2000000 in
theorem removed7_any (S : Nat → Prop) (v x : Vl) (nm : List UInt8) (xv : Value) (w : World) (hS : ∀ b, S b → b < w.heap.size) (hv : v.In (w.on S) xv) (hne : Ed.neat v = true) (hsz : v.size ≤ 1000000) (hnm : nm.length ≤ 1000000) :
    Calls Tryz.prog 61 #[xv, .string ⟨nm.toArray⟩] w (EditL S (Ed.one 2 nm v x) w) := by
  have HS := Lib.hid hS
  clear hS
  obtain ⟨k, b, n, s, l, m⟩ := v
  obtain ⟨ho4, ho5, -, -, hr⟩ := (Ed.neat_iff _ _ _ _ _ _).1 hne
  have hml : m.length ≤ 1000000 := by have := sizeM_len m; simp only [Vl.size] at hsz; omega
  have hll : l.length ≤ 1000000 := by have := sizeL_len l; simp only [Vl.size] at hsz; omega
  obtain ⟨A, e, B, d, hxe, q1, q2, q3, q4, q5, q6⟩ := In.form hv
  subst hxe
  have HB := Lib.hid (below_two0 w (.cells #[.int .i64 k, .bool b, .bool n.neg, .string ⟨n.digits.toArray⟩, .int .i64 n.exp, .string ⟨s.toArray⟩, .slice A l.length e, .slice B m.length d] 28) (.cells zero7 28))
  have HV := Lib.hid ((Blk.new w 28 #[.int .i64 k, .bool b, .bool n.neg, .string ⟨n.digits.toArray⟩, .int .i64 n.exp, .string ⟨s.toArray⟩, .slice A l.length e, .slice B m.length d]).alloc (.cells zero7 28))
  have HZ := Lib.hid (Blk.new2 w (.cells #[.int .i64 k, .bool b, .bool n.neg, .string ⟨n.digits.toArray⟩, .int .i64 n.exp, .string ⟨s.toArray⟩, .slice A l.length e, .slice B m.length d] 28) 28 zero7)
  have HPL := Lib.hid (place7_any _ nm _ _ hne hsz hnm (In.keep ((on_all7 w S).trans (le_below HB.out)) _ _ hv))
  have HLM := Lib.hid (show SlM (w.on S) B m from q6)
  have HLL := Lib.hid (show SlL (w.on S) A l from q5)
  have HQ2 := Lib.hid q2
  have HQ4 := Lib.hid q4
  have HO4 := Lib.hid ho4
  have HO5 := Lib.hid ho5
  have HRI := Lib.hid hr
  clear hr ho4 ho5 hv hne hsz q5 q6
  unfold maxLen at q2 q4
  go_enter Tryz.func61, Tryz.ntmps61
  go_wp2_with fail
  refine HPL.out.mono ?_
  rintro e' w2 ⟨i, bb, rfl, hq, hb2⟩
  have HQ := Lib.hid hq
  have HB2 := Lib.hid (HB.out.trans (hb2.mono HB.out.size))
  have HV2 := Lib.hid (HV.out.on hb2)
  have HZ2 := Lib.hid (HZ.out.on hb2)
  clear hb2 HB HV HZ
  rcases hq with ⟨rfl, hf, hh⟩ | ⟨rfl, hi⟩ | ⟨h5, h4, rfl⟩
  · obtain rfl : l = [] := HO4.out (by decide)
    have hfi := Ed.find_found hf
    cases bb with
    | false =>
      have HR := Lib.hid (show Ed.one 2 nm (.mk 5 b n s [] m) x = .bad 6 by rw [Ed.one_mk, if_neg (by decide), if_pos rfl, if_neg (by rw [hfi]; decide)])
      clear hf hh hfi HQ
      obtain ⟨z0, z1, z2, z3, z4, z5, z6, z7⟩ := HZ2.out.eight
      have zf := HZ2.out.frozen
      have zl := HZ2.out.lt
      go_wp2_with fail
      refine bodyPost_ret (results_row (l := [_, _, _, _, _, _, _, _]) rfl _ _ _ rfl (HZ2.out.set8 _ _ _ _ _ _ _ _) Tryz.underlying28 rfl (by kernel_rfl)) rfl ?_
      rw [HR.out]
      exact ⟨_, rfl, leaf7 _ 0 false Nm.Num.zero [], below_set8 HB2.out (by omega) _ _ _ _ _ _ _ _⟩
    | true =>
      have HR := Lib.hid (show Ed.one 2 nm (.mk 5 b n s [] m) x = .ok (.mk 5 b n s [] (Ed.del m nm)) by rw [Ed.one_mk, if_neg (by decide), if_pos rfl, if_pos (.inr hfi), if_pos rfl])
      have hil := (Ed.found_part HRI.out hh hf).1
      have HL := HLM
      have hzl := HZ2.out.lt
      have HV3 := HV2
      have HZ3 := HZ2
      have HB23 := Lib.hid (Below.refl w2.heap.size w2)
      have HSP := Lib.hid (splicedM_any (fun b => S b ∨ w.heap.size + 2 ≤ b) m [] B none d 0 i (i + 1) 0 w2 (SlM.keep (on_keep7 (S := S) (fun b h => .inl h) HB2.out) HL.out) q3 HQ4.out hml (fun i v h => by simp at h) (by simp) rfl (by omega) (by omega))
      rw [← Ed.del_some HRI.out hh hf] at HSP
      clear hf hh hfi HQ
      rw [show ((i + 1 : Nat) : Int) = (i : Int) + 1 by omega] at HSP
      obtain ⟨a0, a1, a2, a3, a4, a5, a6, a7⟩ := HV2.out.eight
      have al := HV2.out.lt
      clear q1 q2 q3 q4

      generalize Ed.del m nm = nl at *
      go_wp2_with fail
      refine HSP.out.mono ?_
      rintro e4 w4 ⟨A4, c4, rfl, p1, p2, p3, hb4⟩
      have HV4 := Lib.hid (HV3.out.on hb4)
      have HZ4 := Lib.hid (HZ3.out.on hb4)
      have HL4 := Lib.hid p3
      have HB34 := Lib.hid (HB23.out.trans (hb4.mono HB23.out.size))
      have HB4 := Lib.hid (HB2.out.trans (HB34.out.mono HB2.out.size))
      have HP := Lib.hid (And.intro p1 p2)
      obtain ⟨e0, e1, e2, e3, e4, e5, e6, e7⟩ := HV4.out.eight
      have ef := HV4.out.frozen
      have el := HV4.out.lt
      clear a0 a1 a2 a3 a4 a5 a6 a7 al p1 p2 p3 hb4 HSP HV3 HZ3

      go_upto_region 7 with (fail)
      have hv5 : Blk (w4.setCell ⟨w.heap.size, 7, none⟩ (.slice A4 nl.length c4)) w.heap.size 28 #[.int .i64 5, .bool b, .bool n.neg, .string ⟨n.digits.toArray⟩, .int .i64 n.exp, .string ⟨s.toArray⟩, .slice A 0 e, .slice A4 nl.length c4] := Blk.setL (l := [_, _, _, _, _, _, _, _]) HV4.out 7 _
      have HV5 := Lib.hid hv5
      have HZ5 := Lib.hid (show Blk (w4.setCell ⟨w.heap.size, 7, none⟩ (.slice A4 nl.length c4)) (w.heap.size + 1) 28 zero7 from Blk.off7 HZ4.out (by omega) _ _)
      have HB5 := Lib.hid (HB4.out.setCell (p := ⟨w.heap.size, 7, none⟩) (Nat.le_refl _) (.slice A4 nl.length c4))
      clear hv5 e0 e1 e2 e3 e4 e5 e6 e7 ef el
      generalize hw5 : w4.setCell ⟨w.heap.size, 7, none⟩ (.slice A4 nl.length c4) = w5 at *
      have HW5 := Lib.hid hw5
      clear hw5
      obtain ⟨a0, a1, a2, a3, a4, a5, a6, a7⟩ := HV5.out.eight
      have al := HV5.out.lt
      obtain ⟨z0, z1, z2, z3, z4, z5, z6, z7⟩ := HZ5.out.eight
      have zf := HZ5.out.frozen
      have zl := HZ5.out.lt
      go_wp2_with fail
      refine bodyPost_ret (results_row (l := [_, _, _, _, _, _, _, _]) rfl _ _ _ rfl (HZ5.out.set8 _ _ _ _ _ _ _ _) Tryz.underlying28 rfl (by kernel_rfl)) rfl ?_
      rw [HR.out]
      refine ⟨_, rfl, ?_, below_set8 HB5.out (by omega) _ _ _ _ _ _ _ _⟩
      rw [← HW5.out]
      exact In.mk' (slL_nil _ _) (SlM.keep (le_written (fun b h => by have := HZ4.out.lt; have := HB23.out.size; rcases h with (h | h) | h <;> first | (have := HS.out b h; omega) | omega) (fun b h => by have := HZ4.out.lt; have := HB23.out.size; rcases h with (h | h) | h <;> first | exact .inl h | exact .inr (by omega)) _ _ _ _ _ _ _ _ _ _) HL4.out) (Nat.zero_le _) HQ2.out HP.out.1 HP.out.2
  · obtain rfl : m = [] := HO5.out (by decide)
    have hie : index nm l.length (decide ((2 : Nat) = 1)) = (i, bb) := hi
    cases bb with
    | false =>
      have HR := Lib.hid (show Ed.one 2 nm (.mk 4 b n s l []) x = .bad 6 by rw [Ed.one_mk, if_pos rfl, hie, if_neg (by simp)])
      clear hi hie HQ
      obtain ⟨z0, z1, z2, z3, z4, z5, z6, z7⟩ := HZ2.out.eight
      have zf := HZ2.out.frozen
      have zl := HZ2.out.lt
      go_wp2_with fail
      refine bodyPost_ret (results_row (l := [_, _, _, _, _, _, _, _]) rfl _ _ _ rfl (HZ2.out.set8 _ _ _ _ _ _ _ _) Tryz.underlying28 rfl (by kernel_rfl)) rfl ?_
      rw [HR.out]
      exact ⟨_, rfl, leaf7 _ 0 false Nm.Num.zero [], below_set8 HB2.out (by omega) _ _ _ _ _ _ _ _⟩
    | true =>
      have HR := Lib.hid (show Ed.one 2 nm (.mk 4 b n s l []) x = .ok (.mk 4 b n s (l.eraseIdx i) []) by rw [Ed.one_mk, if_pos rfl, hie, if_pos rfl]; rfl)
      have hil : i < l.length := index_lt hi
      have HL := HLL
      clear hi hie HQ
      have hzl := HZ2.out.lt
      have HV3 := HV2
      have HZ3 := HZ2
      have HB23 := Lib.hid (Below.refl w2.heap.size w2)
      have HSP := Lib.hid (splicedV_any (fun b => S b ∨ w.heap.size + 2 ≤ b) l [] A none e 0 i (i + 1) 0 w2 (SlL.keep (on_keep7 (S := S) (fun b h => .inl h) HB2.out) HL.out) q1 HQ2.out hll (fun i v h => by simp at h) (by simp) rfl (by omega) (by omega))
      rw [← erase_mid l i] at HSP
      rw [show ((i + 1 : Nat) : Int) = (i : Int) + 1 by omega] at HSP
      obtain ⟨a0, a1, a2, a3, a4, a5, a6, a7⟩ := HV2.out.eight
      have al := HV2.out.lt
      clear q1 q2 q3 q4

      generalize l.eraseIdx i = nl at *
      go_wp2_with fail
      refine HSP.out.mono ?_
      rintro e4 w4 ⟨A4, c4, rfl, p1, p2, p3, hb4⟩
      have HV4 := Lib.hid (HV3.out.on hb4)
      have HZ4 := Lib.hid (HZ3.out.on hb4)
      have HL4 := Lib.hid p3
      have HB34 := Lib.hid (HB23.out.trans (hb4.mono HB23.out.size))
      have HB4 := Lib.hid (HB2.out.trans (HB34.out.mono HB2.out.size))
      have HP := Lib.hid (And.intro p1 p2)
      obtain ⟨e0, e1, e2, e3, e4, e5, e6, e7⟩ := HV4.out.eight
      have ef := HV4.out.frozen
      have el := HV4.out.lt
      clear a0 a1 a2 a3 a4 a5 a6 a7 al p1 p2 p3 hb4 HSP HV3 HZ3

      go_upto_region 7 with (fail)
      have hv5 : Blk (w4.setCell ⟨w.heap.size, 6, none⟩ (.slice A4 nl.length c4)) w.heap.size 28 #[.int .i64 4, .bool b, .bool n.neg, .string ⟨n.digits.toArray⟩, .int .i64 n.exp, .string ⟨s.toArray⟩, .slice A4 nl.length c4, .slice B 0 d] := Blk.setL (l := [_, _, _, _, _, _, _, _]) HV4.out 6 _
      have HV5 := Lib.hid hv5
      have HZ5 := Lib.hid (show Blk (w4.setCell ⟨w.heap.size, 6, none⟩ (.slice A4 nl.length c4)) (w.heap.size + 1) 28 zero7 from Blk.off7 HZ4.out (by omega) _ _)
      have HB5 := Lib.hid (HB4.out.setCell (p := ⟨w.heap.size, 6, none⟩) (Nat.le_refl _) (.slice A4 nl.length c4))
      clear hv5 e0 e1 e2 e3 e4 e5 e6 e7 ef el
      generalize hw5 : w4.setCell ⟨w.heap.size, 6, none⟩ (.slice A4 nl.length c4) = w5 at *
      have HW5 := Lib.hid hw5
      clear hw5
      obtain ⟨a0, a1, a2, a3, a4, a5, a6, a7⟩ := HV5.out.eight
      have al := HV5.out.lt
      obtain ⟨z0, z1, z2, z3, z4, z5, z6, z7⟩ := HZ5.out.eight
      have zf := HZ5.out.frozen
      have zl := HZ5.out.lt
      go_wp2_with fail
      refine bodyPost_ret (results_row (l := [_, _, _, _, _, _, _, _]) rfl _ _ _ rfl (HZ5.out.set8 _ _ _ _ _ _ _ _) Tryz.underlying28 rfl (by kernel_rfl)) rfl ?_
      rw [HR.out]
      refine ⟨_, rfl, ?_, below_set8 HB5.out (by omega) _ _ _ _ _ _ _ _⟩
      rw [← HW5.out]
      exact In.mk' (SlL.keep (le_written (fun b h => by have := HZ4.out.lt; have := HB23.out.size; rcases h with (h | h) | h <;> first | (have := HS.out b h; omega) | omega) (fun b h => by have := HZ4.out.lt; have := HB23.out.size; rcases h with (h | h) | h <;> first | exact .inl h | exact .inr (by omega)) _ _ _ _ _ _ _ _ _ _) HL4.out) (slM_nil _ _) HP.out.1 HP.out.2 (Nat.zero_le _) HQ4.out
  · have HR := Lib.hid (show Ed.one 2 nm (.mk k b n s l m) x = .bad 6 by rw [Ed.one_mk, if_neg h4, if_neg h5])
    clear h5 h4 HQ
    obtain ⟨z0, z1, z2, z3, z4, z5, z6, z7⟩ := HZ2.out.eight
    have zf := HZ2.out.frozen
    have zl := HZ2.out.lt
    go_wp2_with fail
    refine bodyPost_ret (results_row (l := [_, _, _, _, _, _, _, _]) rfl _ _ _ rfl (HZ2.out.set8 _ _ _ _ _ _ _ _) Tryz.underlying28 rfl (by kernel_rfl)) rfl ?_
    rw [HR.out]
    exact ⟨_, rfl, leaf7 _ 0 false Nm.Num.zero [], below_set8 HB2.out (by omega) _ _ _ _ _ _ _ _⟩

end Go.Proofs.YtjjenpmahmbafaaGreatDoor

namespace Go.Proofs.YtjjenpmahmbafaaGreatDoor
open Go.RowKit Js Pt

theorem neat_steps : Pt.Steps (fun v => Ed.neat v = true) := ⟨fun v h => by
  obtain ⟨k, b, n, s, l, m⟩ := v
  exact ((Ed.neat_iff _ _ _ _ _ _).1 h).2.2.2.2, fun v u nm h hu => by
  obtain ⟨k, b, n, s, l, m⟩ := v
  have hk : Ed.kid (.mk k b n s l m) nm = some u := hu
  refine ⟨Ed.kid_neat h hk, ?_⟩
  rw [stepV_mk] at hu
  split at hu
  · split at hu
    · obtain ⟨hi, hl⟩ := List.getElem?_eq_some_iff.1 hu
      subst hl
      have := sizeL_at hi
      simp only [Vl.size]; omega
    · cases hu
  · exact find_size hu⟩

def LastT (S : Nat → Prop) (op f : Nat) (cb : Array Value) (x : Vl) (w : World) : Prop :=
  ∀ (v : Vl) (nm : List UInt8) (xv : Value) (W : World), Below w.heap.size w W → v.In (W.on S) xv → Ed.neat v = true → v.size ≤ 1000000 → nm.length ≤ 1000000 →
    Calls Tryz.prog f (#[xv, .string ⟨nm.toArray⟩] ++ cb) W (EditL S (Ed.one op nm v x) W)
theorem LastT.on {S : Nat → Prop} {op f : Nat} {cb : Array Value} {x : Vl} {w w' : World} (h : LastT S op f cb x w) (hb : Below w.heap.size w w') : LastT S op f cb x w' :=
  fun v nm xv W hW => h v nm xv W (hb.trans (hW.mono hb.size))
def ChangedT (op f : Nat) (cb : Array Value) (x : Vl) (ns : List (List UInt8)) : Prop :=
  ∀ (S : Nat → Prop) (v : Vl) (xv : Value) (A : Option Addr) (e : Nat) (w : World), (∀ b, S b → b < w.heap.size) → LastT S op f cb x w → v.In (w.on S) xv → Ed.neat v = true → v.size ≤ 1000000 → Strs w.cell? A ns → ns.length ≤ e → e ≤ maxLen → ns.length ≤ 1000000 → (∀ n ∈ ns, n.length ≤ 1000000) →
    Calls Tryz.prog 58 #[xv, .slice A ns.length e, .func (.func f) #[] cb] w (EditL S (Ed.edit op ns v x) w)
theorem EditL.drew {S : Nat → Prop} {r : Ed.Ch} {w : World} {e : Ending} {w' : World} (h : EditL S r w.drew e w') : EditL S r w e w' := by
  obtain ⟨y, h1, h2, h3⟩ := h
  exact ⟨y, h1, h2, (Below.refl w.heap.size w).drew.trans h3⟩

def GotP (c : Cl) (r : Option Vl) (w : World) (e : Ending) (w' : World) : Prop :=
  ∃ z y ev, e = .returned (.tuple #[y, ev]) ∧ z.In c y ∧ Below w.heap.size w w' ∧ ((r = some z ∧ ev = .nilIface) ∨ (r = none ∧ ev = .iface 64 (.int .i64 6)))
theorem GotP.of {c : Cl} {r r' : Option Vl} {w : World} {e : Ending} {w' : World} (hr : r = r') (h : PGetPost c r w e w') : GotP c r' w e w' := by
  subst hr
  obtain ⟨hb, ⟨u, y, h1, h2, h3⟩ | ⟨h1, y, h2, h3⟩⟩ := h
  · exact ⟨u, y, _, h2, h3, hb, .inl ⟨h1, rfl⟩⟩
  · exact ⟨_, y, _, h2, h3, hb, .inr ⟨h1, rfl⟩⟩

set_option linter.unusedVariables false in
set_option linter.unusedSimpArgs false in
set_option maxRecDepth 100000 in
set_option maxHeartbeats 2000000 in
theorem changed7_one (op f : Nat) (cb : Array Value) (x : Vl) (nm : List UInt8) (eg : ∀ args w, (callFunc f args).run Tryz.prog w = .ok (.enter f args) w) : ChangedT op f cb x [nm] := by
  intro S v xv A e w hS hL hv hne hsz hs he hm hl hns
  obtain ⟨k_1, k_2, k_3, k_4, k_5, k_6, k_7, k_8, k_9, k_a, k_b, k_c, rfl⟩ := In.cells hv
  obtain ⟨g0, o0, rfl, hc0⟩ := hs 0 nm rfl
  rw [Nat.add_zero] at hc0
  have hnl : nm.length ≤ 1000000 := hns nm (by simp)
  have HB := Lib.hid (below_two0 w (.cells #[.int .i64 k_1, .bool k_2, .bool k_3, .string ⟨k_4.toArray⟩, .int .i64 k_5, .string ⟨k_6.toArray⟩, .slice k_7 k_8 k_9, .slice k_a k_b k_c] 28) (.cells zero7 28))
  have HV := Lib.hid ((Blk.new w 28 #[.int .i64 k_1, .bool k_2, .bool k_3, .string ⟨k_4.toArray⟩, .int .i64 k_5, .string ⟨k_6.toArray⟩, .slice k_7 k_8 k_9, .slice k_a k_b k_c]).alloc (.cells zero7 28))
  have HZ := Lib.hid (Blk.new2 w (.cells #[.int .i64 k_1, .bool k_2, .bool k_3, .string ⟨k_4.toArray⟩, .int .i64 k_5, .string ⟨k_6.toArray⟩, .slice k_7 k_8 k_9, .slice k_a k_b k_c] 28) 28 zero7)
  have HS := Lib.hid hS
  have HC := Lib.hid (le_below HB.out _ _ hc0)
  have HLC := Lib.hid (fun W (h : Below ((w.alloc (.cells #[.int .i64 k_1, .bool k_2, .bool k_3, .string ⟨k_4.toArray⟩, .int .i64 k_5, .string ⟨k_6.toArray⟩, .slice k_7 k_8 k_9, .slice k_a k_b k_c] 28)).alloc (.cells zero7 28)).heap.size ((w.alloc (.cells #[.int .i64 k_1, .bool k_2, .bool k_3, .string ⟨k_4.toArray⟩, .int .i64 k_5, .string ⟨k_6.toArray⟩, .slice k_7 k_8 k_9, .slice k_a k_b k_c] 28)).alloc (.cells zero7 28)) W) => hL v nm _ W (HB.out.trans (h.mono HB.out.size)) (In.keep (on_keep7 (fun _ h => h) (HB.out.trans (h.mono HB.out.size))) _ _ hv) hne hsz hnl)
  have HE := Lib.hid (show Ed.edit op [nm] v x = Ed.one op nm v x from rfl)
  generalize Ed.one op nm v x = R at *
  clear hS hL hv hne hsz hs hns hc0 he
  unfold maxLen at hm
  go_enter Tryz.func58, Tryz.ntmps58
  go_upto_region 2 with (fail)
  generalize ((w.alloc (.cells #[.int .i64 k_1, .bool k_2, .bool k_3, .string ⟨k_4.toArray⟩, .int .i64 k_5, .string ⟨k_6.toArray⟩, .slice k_7 k_8 k_9, .slice k_a k_b k_c] 28)).alloc (.cells zero7 28)) = w2 at *
  obtain ⟨a0, a1, a2, a3, a4, a5, a6, a7⟩ := HV.out.eight
  have al := HV.out.lt
  have hc := HC.out
  have hgl := World.block_lt_of_cell? _ _ hc
  go_region_law (first | (go_simp; go_at_fn f; refine (HLC.out _ (Below.refl _ _).drew).mono ?_; rintro e9 w9 ⟨y9, rfl, hy, hb9⟩; have hb9' := (Below.refl w2.heap.size w2).drew.trans (show Below w2.heap.size w2.drew w9 from hb9); obtain ⟨j1, j2, j3, j4, j5, j6, j7, j8, j9, ja, jb, jc, rfl⟩ := In.cells hy; have HY := Lib.hid hy; have HB9 := Lib.hid (HB.out.trans (hb9'.mono HB.out.size)); have HB29 := Lib.hid hb9'; have hz9 := HZ.out.on hb9'; have hzc := hz9.eight; have hzf := hz9.frozen; have hzl := hz9.lt; have HZ9 := Lib.hid hz9; clear hy hb9 hb9' hz9))
  all_goals
    go_wp2_with fail
    refine bodyPost_ret (results_row (l := [_, _, _, _, _, _, _, _]) rfl _ _ _ rfl (HZ9.out.set8 _ _ _ _ _ _ _ _) Tryz.underlying28 rfl (by kernel_rfl)) rfl ?_
    rw [HE.out]
    exact ⟨_, rfl, In.keep (le_written1 (fun b h => by rcases h with h | h <;> first | (have := HS.out b h; omega) | (have := HZ.out.lt; have : w2.heap.size ≤ b := h; omega)) (fun b h => by rcases h with h | h <;> first | exact .inl h | (have := HB.out.size; have : w2.heap.size ≤ b := h; exact .inr (by omega))) _ _ _ _ _ _ _ _) _ _ HY.out, below_set8 HB9.out (by omega) _ _ _ _ _ _ _ _⟩

set_option linter.unusedVariables false in
set_option linter.unusedSimpArgs false in
set_option maxRecDepth 100000 in
set_option maxHeartbeats 2000000 in
theorem changed7_more (op f : Nat) (cb : Array Value) (x : Vl) (nm : List UInt8) (ns : List (List UInt8)) (hne0 : ns ≠ []) (ih : ChangedT op f cb x ns) : ChangedT op f cb x (nm :: ns) := by
  intro S v xv A e w hS hL hv hne hsz hs he hm hl hns
  have hn0 : 0 < ns.length := List.length_pos_iff.2 hne0
  obtain ⟨k_1, k_2, k_3, k_4, k_5, k_6, k_7, k_8, k_9, k_a, k_b, k_c, rfl⟩ := In.cells hv
  obtain ⟨g0, o0, rfl, hc0⟩ := hs 0 nm rfl
  rw [Nat.add_zero] at hc0
  have hnl : nm.length ≤ 1000000 := hns nm (by simp)
  simp only [List.length_cons] at he hl ⊢
  have HB := Lib.hid (below_two0 w (.cells #[.int .i64 k_1, .bool k_2, .bool k_3, .string ⟨k_4.toArray⟩, .int .i64 k_5, .string ⟨k_6.toArray⟩, .slice k_7 k_8 k_9, .slice k_a k_b k_c] 28) (.cells zero7 28))
  have HV := Lib.hid ((Blk.new w 28 #[.int .i64 k_1, .bool k_2, .bool k_3, .string ⟨k_4.toArray⟩, .int .i64 k_5, .string ⟨k_6.toArray⟩, .slice k_7 k_8 k_9, .slice k_a k_b k_c]).alloc (.cells zero7 28))
  have HZ := Lib.hid (Blk.new2 w (.cells #[.int .i64 k_1, .bool k_2, .bool k_3, .string ⟨k_4.toArray⟩, .int .i64 k_5, .string ⟨k_6.toArray⟩, .slice k_7 k_8 k_9, .slice k_a k_b k_c] 28) 28 zero7)
  have HS := Lib.hid hS
  have HL := Lib.hid (hL.on HB.out)
  have HST := Lib.hid (hs.keep (le_below HB.out))
  have HIV := Lib.hid (In.keep (on_keep7 (S' := S) (fun _ h => h) HB.out) _ _ hv)
  have HNE := Lib.hid hne
  have HSZ := Lib.hid hsz
  have HNS := Lib.hid hns
  have HEQ := Lib.hid (show Ed.edit op (nm :: ns) v x = (match Ed.kid v nm with | some y => (match Ed.edit op ns y x with | .ok z => .ok (Ed.setKid v nm z) | .bad c => .bad c) | none => .bad 6) by
    rw [Ed.edit_more op nm hne0, Ed.under_kid]
    cases Ed.kid v nm with
    | none => rfl
    | some y => simp only; cases Ed.edit op ns y x <;> rfl)
  have HC2 := Lib.hid (le_below HB.out _ _ hc0)
  clear hS hL hv hne hsz hs hns hc0
  have hm' : e ≤ maxLen := hm
  have HM := Lib.hid hm'
  clear hm'
  unfold maxLen at hm
  have hn1 : ((ns.length : Int) + 1 == 1) = false := by rw [beq_eq_false_iff_ne]; omega
  have he1 : (1 : Int) ≤ (e : Int) := by omega
  go_enter Tryz.func58, Tryz.ntmps58
  go_upto_region 3 with (fail)
  generalize ((w.alloc (.cells #[.int .i64 k_1, .bool k_2, .bool k_3, .string ⟨k_4.toArray⟩, .int .i64 k_5, .string ⟨k_6.toArray⟩, .slice k_7 k_8 k_9, .slice k_a k_b k_c] 28)).alloc (.cells zero7 28)) = w2 at *
  obtain ⟨a0, a1, a2, a3, a4, a5, a6, a7⟩ := HV.out.eight
  have al := HV.out.lt
  have HONE := Lib.hid (show Strs w2.cell? (some ⟨g0, o0, none⟩) [nm] from fun i n hi => by
    have hil := (List.getElem?_eq_some_iff.1 hi).1
    obtain rfl : i = 0 := by simpa using hil
    obtain rfl : nm = n := by simpa using hi
    exact ⟨g0, o0, rfl, by rw [Nat.add_zero]; exact HC2.out⟩)
  have HGET := Lib.hid (fun W (h : Below w2.heap.size w2 W) => (ptrGetM_any _ neat_steps (w2.on S) v [nm] _ (some ⟨g0, o0, none⟩) e W HNE.out HSZ.out ((on_all7 w2 S).trans (le_below h)) HIV.out (HONE.out.keep (le_below h)) (by simp; omega) HM.out (fun q hq => by rw [List.mem_singleton.1 hq]; exact hnl) (by simp)).mono (fun e9 w9 h9 => GotP.of (Ed.get_one v nm) h9))
  go_cut [8, 9] from 11 to 50 (fun v8 v9 wc => ∃ (p8 : Nat) (cs : Array Value) (z : Vl) (ev : Value), v8 = .pointer (some ⟨p8, 0, none⟩) ∧ v9 = ev ∧ Blk wc p8 28 cs ∧ z.In (w2.on S) (.agg cs) ∧ w2.heap.size ≤ p8 ∧ Below w2.heap.size w2 wc ∧ ((Ed.kid v nm = some z ∧ ev = .nilIface) ∨ (Ed.kid v nm = none ∧ ev = .iface 64 (.int .i64 6))))
  case first =>
    go_region_law (first | (go_simp; go_at_call 65; refine (HGET.out _ (by first | exact (Below.refl _ _).drew | exact ((Below.refl _ _).alloc (Nat.le_refl _) _).drew)).mono ?_; rintro e9 w9 ⟨z, y9, ev, rfl, hy, hb9, hres⟩; obtain ⟨j1, j2, j3, j4, j5, j6, j7, j8, j9, ja, jb, jc, rfl⟩ := In.cells hy; have HRES := Lib.hid hres; have HY := Lib.hid hy; first | (have h8 : Blk w9 w2.heap.size 28 zero7 := (show Blk (World.drew (w2.alloc (.cells zero7 28))) _ _ _ from Blk.new w2 _ _).on hb9; have h8c := h8.eight; have h8f := h8.frozen; have h8l := h8.lt; have H8 := Lib.hid h8; have HB9 := Lib.hid ((((Below.refl w2.heap.size w2).alloc (Nat.le_refl _) (.cells zero7 28)).drew).trans (hb9.mono (by simp))); clear h8) | (have HB9 := Lib.hid (((Below.refl w2.heap.size w2).drew).trans (show Below w2.heap.size w2.drew w9 from hb9))); have hsz9 := HB9.out.size; clear hy hb9 hres))
    all_goals
      go_wp2_with fail
      go_meet
      case rel => first
        | exact ⟨w2.heap.size, _, z, ev, rfl, rfl, H8.out.set8 _ _ _ _ _ _ _ _, HY.out, Nat.le_refl _, below_set8 HB9.out (Nat.le_refl _) _ _ _ _ _ _ _ _, HRES.out⟩
        | exact ⟨w9.heap.size, _, z, ev, rfl, rfl, Blk.new _ _ _, HY.out, hsz9, HB9.out.alloc hsz9 _, HRES.out⟩
  case rest =>
    obtain ⟨wk, hwk⟩ : ∃ wk, wk = wc := ⟨_, rfl⟩
    subst hwk
    obtain ⟨p8, cs, z, ev, rfl, rfl, hb8, hz, hp8, hbc, hres⟩ := hcut
    have HBC := Lib.hid hbc
    have HZC := Lib.hid (HZ.out.on hbc)
    have HVC := Lib.hid (HV.out.on hbc)
    have HB2 := Lib.hid (HB.out.trans (hbc.mono HB.out.size))
    clear a0 a1 a2 a3 a4 a5 a6 a7 al HGET HONE
    have hzl2 := HZ.out.lt
    rcases hres with ⟨hkid, rfl⟩ | ⟨hkid, rfl⟩
    · have HKID := Lib.hid hkid
      have HB8 := Lib.hid hb8
      have HIZ := Lib.hid hz
      obtain ⟨m_1, m_2, m_3, m_4, m_5, m_6, m_7, m_8, m_9, m_a, m_b, m_c, hcs⟩ := In.cells hz
      injection hcs with hcs
      subst hcs
      obtain ⟨c0, c1, c2, c3, c4, c5, c6, c7⟩ := hb8.eight
      have cf := hb8.frozen
      have cl := hb8.lt
      have hs1 : (1 : Int) ≤ (ns.length : Int) + 1 := by omega
      obtain ⟨AJ, hAJ⟩ : ∃ AJ, (if e = 1 then some (⟨g0, o0, none⟩ : Addr) else some ⟨g0, o0 + 1, none⟩) = AJ := ⟨_, rfl⟩
      have HSJ := Lib.hid (show Strs w2.cell? AJ ns by
        intro i nn hi
        have hil := (List.getElem?_eq_some_iff.1 hi).1
        obtain ⟨g1, o1', h1, h2⟩ := HST.out (i + 1) nn (by simpa using hi)
        injection h1 with h1
        injection h1 with h1 h3 _
        subst h1 h3
        refine ⟨g0, o0 + 1, by rw [← hAJ, if_neg (by omega)], ?_⟩
        rw [show o0 + (i + 1) = o0 + 1 + i by omega] at h2
        exact h2)
      have HNZ := Lib.hid (neat_steps.step v z nm HNE.out hkid)
      have HREC := Lib.hid (fun W (h : Below wk.heap.size wk W) => ih S z _ AJ (e - 1) W (fun b' hb' => Nat.lt_of_lt_of_le (HS.out b' hb') (Nat.le_trans HB2.out.size h.size)) (HL.out.on (HBC.out.trans (h.mono HBC.out.size))) (In.keep (on_keep7 (S := S) (fun _ h => h) (HBC.out.trans (h.mono HBC.out.size))) _ _ HIZ.out) HNZ.out.1 (Nat.le_trans HNZ.out.2 HSZ.out) (HSJ.out.keep (le_below (HBC.out.trans (h.mono HBC.out.size)))) (by omega) (by unfold maxLen; omega) (by omega) (fun q hq => HNS.out q (List.mem_cons_of_mem _ hq)))
      obtain ⟨R7, hR7⟩ : ∃ R7, Ed.edit op ns z x = R7 := ⟨_, rfl⟩
      rw [hR7] at HREC
      have HRR := Lib.hid hR7
      clear hR7 hb8 hz hbc hkid
      go_upto_region 6 with (fail)
      go_cut [10] from 11 to 50 (fun v10 wd => ∃ (ds : Array Value), v10 = .bool (Ed.okOf R7) ∧ Blk wd p8 28 ds ∧ (Ed.resZ R7).In (wd.on fun b => S b ∨ wk.heap.size ≤ b) (.agg ds) ∧ Below w2.heap.size w2 wd ∧ wk.heap.size ≤ wd.heap.size)
      case first =>
        go_region_law (first | (go_simp; go_at_call 58; refine (HREC.out _ (Below.refl _ _).drew).mono ?_; rintro e9 w9 ⟨y9, rfl, hy, hb9⟩; have hb9' := (Below.refl wk.heap.size wk).drew.trans (show Below wk.heap.size wk.drew w9 from hb9); obtain ⟨j1, j2, j3, j4, j5, j6, j7, j8, j9, ja, jb, jc, rfl⟩ := In.cells hy; have HY := Lib.hid hy; have HB9 := Lib.hid hb9'; have h89 := HB8.out.on hb9'; have h8c := h89.eight; have h8f := h89.frozen; have h8l := h89.lt; have H89 := Lib.hid h89; clear hy hb9 hb9' h89))
        all_goals
          go_wp2_with fail
          go_meet
          case rel => exact ⟨_, rfl, H89.out.set8 _ _ _ _ _ _ _ _, In.keep (le_written1 (fun b h => by rcases h with h | h <;> first | (have := HS.out b h; have := HB.out.size; omega) | (have : wk.heap.size ≤ b := h; omega)) (fun b h => h) _ _ _ _ _ _ _ _) _ _ HY.out, below_set8 (HBC.out.trans (HB9.out.mono HBC.out.size)) hp8 _ _ _ _ _ _ _ _, (below_set8 (HB9.out.mono (Nat.zero_le _)) (Nat.zero_le _) _ _ _ _ _ _ _ _).size⟩
      case rest =>
        obtain ⟨ds, rfl, hd8, hzd, hbd, hwcd⟩ := hcut
        have HVD := Lib.hid (HV.out.on hbd)
        have HZD := Lib.hid (HZ.out.on hbd)
        have HBD := Lib.hid (HB.out.trans (hbd.mono HB.out.size))
        have hsd := hbd.size
        have hsk := HBC.out.size
        have HCD := Lib.hid (le_below hbd _ _ HC2.out)
        clear c0 c1 c2 c3 c4 c5 c6 c7 cf cl HREC
        have hz0 := HZD.out.eight
        have hzf := HZD.out.frozen
        have hzl := HZD.out.lt
        cases hR : R7 with
        | bad c =>
          have HE := Lib.hid (show Ed.edit op (nm :: ns) v x = .bad c by rw [HEQ.out, HKID.out]; simp only; rw [HRR.out, hR])
          have hok : Ed.okOf (.bad c) = false := rfl
          rw [hok]
          clear hok hR hd8 hzd hbd
          go_wp2_with fail
          refine bodyPost_ret (results_row (l := [_, _, _, _, _, _, _, _]) rfl _ _ _ rfl (HZD.out.set8 _ _ _ _ _ _ _ _) Tryz.underlying28 rfl (by kernel_rfl)) rfl ?_
          rw [HE.out]
          exact ⟨_, rfl, leaf7 _ 0 false Nm.Num.zero [], below_set8 HBD.out (by omega) _ _ _ _ _ _ _ _⟩
        | ok u =>
          have HE := Lib.hid (show Ed.edit op (nm :: ns) v x = .ok (Ed.setKid v nm u) by rw [HEQ.out, HKID.out]; simp only; rw [HRR.out, hR])
          have HR3 := Lib.hid (Ed.rep_set u HNE.out HKID.out)
          have hok : Ed.okOf (.ok u) = true := rfl
          rw [hok]
          have hzu : u.In (wc.on fun b => S b ∨ wk.heap.size ≤ b) (.agg ds) := by rw [hR] at hzd; exact hzd
          obtain ⟨n_1, n_2, n_3, n_4, n_5, n_6, n_7, n_8, n_9, n_a, n_b, n_c, hds⟩ := In.cells hzu
          injection hds with hds
          subst hds
          have HIU := Lib.hid (In.keep (on_in7 _ _) _ _ hzu)
          have HIV9 := Lib.hid (In.keep (on_keep7 (S' := fun b => (S b ∨ wk.heap.size ≤ b) ∧ b < wc.heap.size) (fun b h => ⟨.inl h, by have := HS.out b h; have := HB.out.size; omega⟩) hbd) _ _ HIV.out)
          obtain ⟨a0, a1, a2, a3, a4, a5, a6, a7⟩ := HVD.out.eight
          have al := HVD.out.lt
          obtain ⟨c0, c1, c2, c3, c4, c5, c6, c7⟩ := hd8.eight
          have cl := hd8.lt
          have hc := HCD.out
          have hcl := World.block_lt_of_cell? _ _ hc
          have HRP := Lib.hid (fun W (h : Below wc.heap.size wc W) => replaced7_any (fun b => (S b ∨ wk.heap.size ≤ b) ∧ b < wc.heap.size) v u nm _ _ W (fun b hb => Nat.lt_of_lt_of_le hb.2 h.size) (In.keep (on_keep7 (fun _ h => h) h) _ _ HIV9.out) (In.keep (on_keep7 (fun _ h => h) h) _ _ HIU.out) HNE.out HSZ.out hnl)
          rw [HR3.out] at HRP
          clear hok hR hd8 hzd hbd hzu
          go_upto_region 9 with (fail)
          go_region_law (first | (go_simp; go_at_call 63; refine (HRP.out _ (Below.refl _ _).drew).mono ?_; rintro e9 w9 ⟨y9, rfl, hy, hb9⟩; have hb9' := (Below.refl wc.heap.size wc).drew.trans (show Below wc.heap.size wc.drew w9 from hb9); obtain ⟨j1, j2, j3, j4, j5, j6, j7, j8, j9, ja, jb, jc, rfl⟩ := In.cells hy; have HY := Lib.hid hy; have HB9 := Lib.hid (HBD.out.trans (hb9'.mono HBD.out.size)); have hz9 := HZD.out.on hb9'; have hzc := hz9.eight; have hzf9 := hz9.frozen; have hzl9 := hz9.lt; have HZ9 := Lib.hid hz9; clear hy hb9 hb9' hz9))
          all_goals
            go_wp2_with fail
            refine bodyPost_ret (results_row (l := [_, _, _, _, _, _, _, _]) rfl _ _ _ rfl (HZ9.out.set8 _ _ _ _ _ _ _ _) Tryz.underlying28 rfl (by kernel_rfl)) rfl ?_
            rw [HE.out]
            exact ⟨_, rfl, In.keep (le_written1 (fun b h => by rcases h with ⟨h | h, _⟩ | h <;> first | (have := HS.out b h; omega) | omega | (have : wc.heap.size ≤ b := h; omega)) (fun b h => by rcases h with ⟨h | h, _⟩ | h <;> first | exact .inl h | exact .inr (by omega) | (have : wc.heap.size ≤ b := h; exact .inr (by omega))) _ _ _ _ _ _ _ _) _ _ HY.out, below_set8 HB9.out (by omega) _ _ _ _ _ _ _ _⟩
    · have HE := Lib.hid (show Ed.edit op (nm :: ns) v x = .bad 6 by rw [HEQ.out, hkid])
      obtain ⟨z0, z1, z2, z3, z4, z5, z6, z7⟩ := HZC.out.eight
      have zf := HZC.out.frozen
      have zl := HZC.out.lt
      clear hb8 hz hbc hkid
      go_wp2_with fail
      refine bodyPost_ret (results_row (l := [_, _, _, _, _, _, _, _]) rfl _ _ _ rfl (HZC.out.set8 _ _ _ _ _ _ _ _) Tryz.underlying28 rfl (by kernel_rfl)) rfl ?_
      rw [HE.out]
      exact ⟨_, rfl, leaf7 _ 0 false Nm.Num.zero [], below_set8 HB2.out (by omega) _ _ _ _ _ _ _ _⟩

theorem changed7_any (op f : Nat) (cb : Array Value) (x : Vl) (eg : ∀ args w, (callFunc f args).run Tryz.prog w = .ok (.enter f args) w) : ∀ ns, ns ≠ [] → ChangedT op f cb x ns
  | [], h => absurd rfl h
  | [nm], _ => changed7_one op f cb x nm eg
  | nm :: a :: r, _ => changed7_more op f cb x nm (a :: r) (by simp) (changed7_any op f cb x eg (a :: r) (by simp))

end Go.Proofs.YtjjenpmahmbafaaGreatDoor

namespace Go.Proofs.YtjjenpmahmbafaaGreatDoor
open Go.RowKit Js Pt

def ToldP (c : Cl) (r : Ed.Ch) (w : World) (e : Ending) (w' : World) : Prop := ∃ y, e = .returned (.tuple #[y, errV (Ed.resC r)]) ∧ (Ed.resZ r).In c y ∧ Below w.heap.size w w'
set_option linter.unusedVariables false in
set_option linter.unusedSimpArgs false in
set_option maxRecDepth 100000 in
set_option maxHeartbeats 2000000 in
theorem told7_any (c : Cl) (r : Ed.Ch) (hc : ∀ k, r = .bad k → k = 6) (y : Value) (w : World) (hy : (Ed.resZ r).In c y) :
    Calls Tryz.prog 57 #[y, .bool (Ed.okOf r)] w (ToldP c r w) := by
  obtain ⟨k_1, k_2, k_3, k_4, k_5, k_6, k_7, k_8, k_9, k_a, k_b, k_c, rfl⟩ := In.cells hy
  have HY := Lib.hid hy
  clear hy
  cases r with
  | ok z =>
    have HB := Lib.hid (below_two0 w (.cells #[.int .i64 k_1, .bool k_2, .bool k_3, .string ⟨k_4.toArray⟩, .int .i64 k_5, .string ⟨k_6.toArray⟩, .slice k_7 k_8 k_9, .slice k_a k_b k_c] 28) (.cells #[.int .i64 k_1, .bool k_2, .bool k_3, .string ⟨k_4.toArray⟩, .int .i64 k_5, .string ⟨k_6.toArray⟩, .slice k_7 k_8 k_9, .slice k_a k_b k_c] 28))
    have HZ := Lib.hid (Blk.new2 w (.cells #[.int .i64 k_1, .bool k_2, .bool k_3, .string ⟨k_4.toArray⟩, .int .i64 k_5, .string ⟨k_6.toArray⟩, .slice k_7 k_8 k_9, .slice k_a k_b k_c] 28) 28 #[.int .i64 k_1, .bool k_2, .bool k_3, .string ⟨k_4.toArray⟩, .int .i64 k_5, .string ⟨k_6.toArray⟩, .slice k_7 k_8 k_9, .slice k_a k_b k_c])
    have hok : Ed.okOf (.ok z) = true := rfl
    rw [hok]
    clear hc hok
    go_enter Tryz.func57, Tryz.ntmps57
    go_wp2_with fail
    refine bodyPost_ret (results_row (l := [_, _, _, _, _, _, _, _]) rfl _ _ _ rfl HZ.out Tryz.underlying28 rfl (by kernel_rfl)) rfl ?_
    exact ⟨_, rfl, HY.out, HB.out⟩
  | bad k =>
    obtain rfl := hc k rfl
    have HB := Lib.hid (below_two0 w (.cells #[.int .i64 k_1, .bool k_2, .bool k_3, .string ⟨k_4.toArray⟩, .int .i64 k_5, .string ⟨k_6.toArray⟩, .slice k_7 k_8 k_9, .slice k_a k_b k_c] 28) (.cells zero7 28))
    have HZ := Lib.hid (Blk.new2 w (.cells #[.int .i64 k_1, .bool k_2, .bool k_3, .string ⟨k_4.toArray⟩, .int .i64 k_5, .string ⟨k_6.toArray⟩, .slice k_7 k_8 k_9, .slice k_a k_b k_c] 28) 28 zero7)
    have hok : Ed.okOf (.bad 6) = false := rfl
    rw [hok]
    clear hc hok
    go_enter Tryz.func57, Tryz.ntmps57
    go_wp2_with fail
    refine bodyPost_ret (results_row (l := [_, _, _, _, _, _, _, _]) rfl _ _ _ rfl HZ.out Tryz.underlying28 rfl (by kernel_rfl)) rfl ?_
    exact ⟨_, rfl, leaf7 _ 0 false Nm.Num.zero [], HB.out⟩

set_option linter.unusedVariables false in
set_option linter.unusedSimpArgs false in
set_option maxRecDepth 100000 in
set_option maxHeartbeats 2000000 in
theorem added1_any (S : Nat → Prop) (x : Vl) (g : Nat) {x_1 : Int} {x_2 x_3 : Bool} {x_4 : List UInt8} {x_5 : Int} {x_6 : List UInt8} {x_7 : Option Addr} {x_8 x_9 : Nat} {x_a : Option Addr} {x_b x_c : Nat} (w : World) (hS : ∀ b, S b → b < w.heap.size) (hb : Blk w g 28 #[.int .i64 x_1, .bool x_2, .bool x_3, .string ⟨x_4.toArray⟩, .int .i64 x_5, .string ⟨x_6.toArray⟩, .slice x_7 x_8 x_9, .slice x_a x_b x_c]) (hx : x.In (w.on S) (.agg #[.int .i64 x_1, .bool x_2, .bool x_3, .string ⟨x_4.toArray⟩, .int .i64 x_5, .string ⟨x_6.toArray⟩, .slice x_7 x_8 x_9, .slice x_a x_b x_c])) :
    LastT S 1 59 #[.pointer (some ⟨g, 0, none⟩)] x w := by
  intro v nm xv W hW hv hne hsz hnm
  obtain ⟨k_1, k_2, k_3, k_4, k_5, k_6, k_7, k_8, k_9, k_a, k_b, k_c, rfl⟩ := In.cells hv
  have HB := Lib.hid (below_two0 W (.cells #[.int .i64 k_1, .bool k_2, .bool k_3, .string ⟨k_4.toArray⟩, .int .i64 k_5, .string ⟨k_6.toArray⟩, .slice k_7 k_8 k_9, .slice k_a k_b k_c] 28) (.cells zero7 28))
  have HZ := Lib.hid (Blk.new2 W (.cells #[.int .i64 k_1, .bool k_2, .bool k_3, .string ⟨k_4.toArray⟩, .int .i64 k_5, .string ⟨k_6.toArray⟩, .slice k_7 k_8 k_9, .slice k_a k_b k_c] 28) 28 zero7)
  have HS := Lib.hid hS
  have HSW := Lib.hid hW.size
  have hbW := hb.on hW
  obtain ⟨x0, x1, x2, x3, x4, x5, x6, x7⟩ := hbW.eight
  have xl := hbW.lt
  have HL := Lib.hid (added7_any S v x nm _ _ ((W.alloc (.cells #[.int .i64 k_1, .bool k_2, .bool k_3, .string ⟨k_4.toArray⟩, .int .i64 k_5, .string ⟨k_6.toArray⟩, .slice k_7 k_8 k_9, .slice k_a k_b k_c] 28)).alloc (.cells zero7 28)) (fun b h => by have := hS b h; have := hW.size; have := HB.out.size; omega) (In.keep (on_keep7 (fun _ h => h) HB.out) _ _ hv) (In.keep (on_keep7 (fun _ h => h) (hW.trans (HB.out.mono hW.size))) _ _ hx) hne hsz hnm)
  clear hW hv hne hsz hbW hb hx hS
  show Calls Tryz.prog 59 #[_, .string ⟨nm.toArray⟩, .pointer (some ⟨g, 0, none⟩)] W _
  go_enter Tryz.func59, Tryz.ntmps59
  go_wp2_with fail
  refine HL.out.mono ?_
  rintro e9 w9 ⟨y9, rfl, hy, hb9⟩
  obtain ⟨j1, j2, j3, j4, j5, j6, j7, j8, j9, ja, jb, jc, rfl⟩ := In.cells hy
  have HY := Lib.hid hy
  have HB9 := Lib.hid (HB.out.trans (hb9.mono HB.out.size))
  have HZ9 := Lib.hid (HZ.out.on hb9)
  have HZL := Lib.hid HZ.out.lt
  clear hy hb9 x0 x1 x2 x3 x4 x5 x6 x7 xl
  obtain ⟨z0, z1, z2, z3, z4, z5, z6, z7⟩ := HZ9.out.eight
  have zf := HZ9.out.frozen
  have zl := HZ9.out.lt
  generalize hww : ((W.alloc (.cells #[.int .i64 k_1, .bool k_2, .bool k_3, .string ⟨k_4.toArray⟩, .int .i64 k_5, .string ⟨k_6.toArray⟩, .slice k_7 k_8 k_9, .slice k_a k_b k_c] 28)).alloc (.cells zero7 28)) = w2 at *
  clear hww
  go_wp2_with fail
  refine bodyPost_ret (results_row (l := [_, _, _, _, _, _, _, _]) rfl _ _ _ rfl (HZ9.out.set8 _ _ _ _ _ _ _ _) Tryz.underlying28 rfl (by kernel_rfl)) rfl ?_
  exact ⟨_, rfl, In.keep (le_written1 (fun b h => by rcases h with h | h <;> first | (have := HS.out b h; have := HSW.out; omega) | (have := HZL.out; have : w2.heap.size ≤ b := h; omega)) (fun b h => by rcases h with h | h <;> first | exact .inl h | (have := HZL.out; have : w2.heap.size ≤ b := h; exact .inr (by omega))) _ _ _ _ _ _ _ _) _ _ HY.out, below_set8 HB9.out (by omega) _ _ _ _ _ _ _ _⟩

set_option linter.unusedVariables false in
set_option linter.unusedSimpArgs false in
set_option maxRecDepth 100000 in
set_option maxHeartbeats 2000000 in
theorem replaced1_any (S : Nat → Prop) (x : Vl) (g : Nat) {x_1 : Int} {x_2 x_3 : Bool} {x_4 : List UInt8} {x_5 : Int} {x_6 : List UInt8} {x_7 : Option Addr} {x_8 x_9 : Nat} {x_a : Option Addr} {x_b x_c : Nat} (w : World) (hS : ∀ b, S b → b < w.heap.size) (hb : Blk w g 28 #[.int .i64 x_1, .bool x_2, .bool x_3, .string ⟨x_4.toArray⟩, .int .i64 x_5, .string ⟨x_6.toArray⟩, .slice x_7 x_8 x_9, .slice x_a x_b x_c]) (hx : x.In (w.on S) (.agg #[.int .i64 x_1, .bool x_2, .bool x_3, .string ⟨x_4.toArray⟩, .int .i64 x_5, .string ⟨x_6.toArray⟩, .slice x_7 x_8 x_9, .slice x_a x_b x_c])) :
    LastT S 3 62 #[.pointer (some ⟨g, 0, none⟩)] x w := by
  intro v nm xv W hW hv hne hsz hnm
  obtain ⟨k_1, k_2, k_3, k_4, k_5, k_6, k_7, k_8, k_9, k_a, k_b, k_c, rfl⟩ := In.cells hv
  have HB := Lib.hid (below_two0 W (.cells #[.int .i64 k_1, .bool k_2, .bool k_3, .string ⟨k_4.toArray⟩, .int .i64 k_5, .string ⟨k_6.toArray⟩, .slice k_7 k_8 k_9, .slice k_a k_b k_c] 28) (.cells zero7 28))
  have HZ := Lib.hid (Blk.new2 W (.cells #[.int .i64 k_1, .bool k_2, .bool k_3, .string ⟨k_4.toArray⟩, .int .i64 k_5, .string ⟨k_6.toArray⟩, .slice k_7 k_8 k_9, .slice k_a k_b k_c] 28) 28 zero7)
  have HS := Lib.hid hS
  have HSW := Lib.hid hW.size
  have hbW := hb.on hW
  obtain ⟨x0, x1, x2, x3, x4, x5, x6, x7⟩ := hbW.eight
  have xl := hbW.lt
  have HL := Lib.hid (replaced7_any S v x nm _ _ ((W.alloc (.cells #[.int .i64 k_1, .bool k_2, .bool k_3, .string ⟨k_4.toArray⟩, .int .i64 k_5, .string ⟨k_6.toArray⟩, .slice k_7 k_8 k_9, .slice k_a k_b k_c] 28)).alloc (.cells zero7 28)) (fun b h => by have := hS b h; have := hW.size; have := HB.out.size; omega) (In.keep (on_keep7 (fun _ h => h) HB.out) _ _ hv) (In.keep (on_keep7 (fun _ h => h) (hW.trans (HB.out.mono hW.size))) _ _ hx) hne hsz hnm)
  clear hW hv hne hsz hbW hb hx hS
  show Calls Tryz.prog 62 #[_, .string ⟨nm.toArray⟩, .pointer (some ⟨g, 0, none⟩)] W _
  go_enter Tryz.func62, Tryz.ntmps62
  go_wp2_with fail
  refine HL.out.mono ?_
  rintro e9 w9 ⟨y9, rfl, hy, hb9⟩
  obtain ⟨j1, j2, j3, j4, j5, j6, j7, j8, j9, ja, jb, jc, rfl⟩ := In.cells hy
  have HY := Lib.hid hy
  have HB9 := Lib.hid (HB.out.trans (hb9.mono HB.out.size))
  have HZ9 := Lib.hid (HZ.out.on hb9)
  have HZL := Lib.hid HZ.out.lt
  clear hy hb9 x0 x1 x2 x3 x4 x5 x6 x7 xl
  obtain ⟨z0, z1, z2, z3, z4, z5, z6, z7⟩ := HZ9.out.eight
  have zf := HZ9.out.frozen
  have zl := HZ9.out.lt
  generalize hww : ((W.alloc (.cells #[.int .i64 k_1, .bool k_2, .bool k_3, .string ⟨k_4.toArray⟩, .int .i64 k_5, .string ⟨k_6.toArray⟩, .slice k_7 k_8 k_9, .slice k_a k_b k_c] 28)).alloc (.cells zero7 28)) = w2 at *
  clear hww
  go_wp2_with fail
  refine bodyPost_ret (results_row (l := [_, _, _, _, _, _, _, _]) rfl _ _ _ rfl (HZ9.out.set8 _ _ _ _ _ _ _ _) Tryz.underlying28 rfl (by kernel_rfl)) rfl ?_
  exact ⟨_, rfl, In.keep (le_written1 (fun b h => by rcases h with h | h <;> first | (have := HS.out b h; have := HSW.out; omega) | (have := HZL.out; have : w2.heap.size ≤ b := h; omega)) (fun b h => by rcases h with h | h <;> first | exact .inl h | (have := HZL.out; have : w2.heap.size ≤ b := h; exact .inr (by omega))) _ _ _ _ _ _ _ _) _ _ HY.out, below_set8 HB9.out (by omega) _ _ _ _ _ _ _ _⟩

theorem rem1_any (S : Nat → Prop) (x : Vl) (w : World) (hS : ∀ b, S b → b < w.heap.size) : LastT S 2 61 #[] x w := by
  intro v nm xv W hW hv hne hsz hnm
  exact removed7_any S v x nm xv W (fun b h => Nat.lt_of_lt_of_le (hS b h) hW.size) hv hne hsz hnm

end Go.Proofs.YtjjenpmahmbafaaGreatDoor


