/- Di: Di Df, in one text. -/
import Derived.Test.YticpgjhckjhfeaaDoorDh
import Derived.Test.YticpgjhckjhfeaaDoorDc
import Derived.Test.YticpgjhckjhfeaaDoorRg
import Derived.BigQuiet
import Derived.Laws.StructEq
/- The document's Compile (layer 11). -/
namespace Go.Proofs.YticpgjhckjhfeaaDoor
open Go.RowKit Js Pt

theorem vl_pos (v : Vl) : 1 ≤ v.size := by obtain ⟨k, b, n, s, l, m⟩ := v; simp only [Vl.size]; omega
theorem node_any : ∀ f, NodeC f
  | 0 => fun v hv => absurd (vl_pos v) (by omega)
  | f + 1 => node_step f (node_any f)
theorem Mk.start (w : World) : Mk w.heap.size (fun _ => False) none 0 [] 0 [] (w.alloc (.cells #[.slice none 0 0, .int .i64 0, .string ⟨#[]⟩] 58)) where
  blk := Blk.new w _ _
  row := RowX.nil _ _
  few := Nat.zero_le _
  apart := fun b e => by obtain ⟨ad, e, _⟩ := e; cases e
  ng := fun k => k
  yl := fun b k => k.elim
theorem lx_none {gm b : Nat} (h : b < gm) : ¬ LX gm none b := fun k => by
  rcases k with k | k
  · omega
  · obtain ⟨ad, e, _⟩ := k; cases e
/-- What the document's Compile tells. -/
def CompR (r : Cm.Res (List Cm.Node)) (w : World) (e : Ending) (w' : World) : Prop :=
  Below w.heap.size w w' ∧ ((∃ (a : List Cm.Node) (A : Option Addr) (cp : Nat), r = .ok a ∧ e = .returned (.tuple #[.slice A a.length cp, .int .i64 0, .string ⟨#[]⟩]) ∧ SlN w'.cell? A a ∧ a.length ≤ cp ∧ cp ≤ maxLen) ∨
    (∃ (c : Nat) (p : Cm.Names), r = .bad c p ∧ ¬ c = 0 ∧ c ≤ 14 ∧ e = .returned (.tuple #[.slice none 0 0, .int .i64 c, .string ⟨(text p).toArray⟩])))

set_option linter.unusedVariables false in
set_option linter.unusedSimpArgs false in
set_option maxRecDepth 100000 in
set_option maxHeartbeats 2000000 in
theorem refCompile_any (v : Vl) (x : Value) (w : World) (hx : v.In w.cell? x) (hsl : v.slim 1000000) (hsz : v.size ≤ 1000000) : Calls Tryd.prog 7 #[x] w (CompR (Cm.compile v) w) := by
  have hx0 := hx
  obtain ⟨k_1, k_2, k_3, k_4, k_5, k_6, k_7, k_8, k_9, k_a, k_b, k_c, rfl⟩ := In.cells hx
  have hb1 := (Below.refl w.heap.size w).alloc (Nat.le_refl _) (.cells #[.int .i64 k_1, .bool k_2, .bool k_3, .string ⟨k_4.toArray⟩, .int .i64 k_5, .string ⟨k_6.toArray⟩, .slice k_7 k_8 k_9, .slice k_a k_b k_c] 28)
  have HB := Lib.hid hb1
  have HK := Lib.hid (Blk.new w 28 #[.int .i64 k_1, .bool k_2, .bool k_3, .string ⟨k_4.toArray⟩, .int .i64 k_5, .string ⟨k_6.toArray⟩, .slice k_7 k_8 k_9, .slice k_a k_b k_c])
  have HSC := Lib.hid (refSchema_any v _ (w.alloc (.cells #[.int .i64 k_1, .bool k_2, .bool k_3, .string ⟨k_4.toArray⟩, .int .i64 k_5, .string ⟨k_6.toArray⟩, .slice k_7 k_8 k_9, .slice k_a k_b k_c] 28)) (In.keep (le_below hb1) _ _ hx0))
  have HX := Lib.hid hx0
  have HSL := Lib.hid hsl
  obtain ⟨sb, hsb⟩ : ∃ sb, Sh.isSch v = sb := ⟨_, rfl⟩
  rw [hsb] at HSC
  have HC := Lib.hid (show Cm.compile v = if sb = true then Cm.node v.size 0 [] v else .bad 14 [] by unfold Cm.compile; rw [hsb])
  clear hx hx0 hb1 hsb hsl
  go_enter Tryd.func7, Tryd.ntmps7
  go_upto_region 1 with (fail)
  generalize w.alloc (.cells #[.int .i64 k_1, .bool k_2, .bool k_3, .string ⟨k_4.toArray⟩, .int .i64 k_5, .string ⟨k_6.toArray⟩, .slice k_7 k_8 k_9, .slice k_a k_b k_c] 28) = w0 at *
  obtain ⟨a0, a1, a2, a3, a4, a5, a6, a7⟩ := HK.out.eight
  have hkl := HK.out.lt
  go_wp2_with fail
  refine HSC.out.mono ?_
  rintro e1 w1 ⟨rfl, hb2⟩
  have HB1 := Lib.hid (HB.out.trans (hb2.mono HB.out.size))
  have HK1 := Lib.hid (HK.out.on hb2)
  clear hb2 HSC HB HK a0 a1 a2 a3 a4 a5 a6 a7 hkl
  cases sb with
  | false =>
    go_wp2_with fail
    go_ret3
    exact ⟨HB1.out, .inr ⟨14, [], by rw [HC.out]; rfl, by decide, by decide, rfl⟩⟩
  | true =>
    have hb3 := (Below.refl w1.heap.size w1).alloc (Nat.le_refl _) (.cells #[.slice none 0 0, .int .i64 0, .string ⟨#[]⟩] 58)
    have HB2 := Lib.hid (HB1.out.trans (hb3.mono HB1.out.size))
    have HK2 := Lib.hid (HK1.out.on hb3)
    have HM := Lib.hid (Mk.start w1)
    have HGM := Lib.hid (show w.heap.size ≤ w1.heap.size from HB1.out.size)
    clear hb3 HK1 HB1
    go_upto_region 5 with (fail)
    generalize w1.alloc (.cells #[.slice none 0 0, .int .i64 0, .string ⟨#[]⟩] 58) = w2 at *
    generalize w1.heap.size = gm at *
    have HN := Lib.hid (node_any v.size v (Nat.le_refl _) HSL.out hsz gm (fun _ => False) none 0 [] [] [] w2 _ (fun b => b < w.heap.size) HM.out (fun b hb => ⟨Nat.lt_of_lt_of_le hb HB2.out.size, lx_none (Nat.lt_of_lt_of_le hb HGM.out), fun k => k⟩) (In.keep (fun p u hp => on_some.2 ⟨World.block_lt_of_cell? _ _ hp, le_below HB2.out _ _ hp⟩) _ _ HX.out) (by show 0 + _ ≤ _; omega))
    rw [show (text []).toArray = #[] from rfl] at HN
    obtain ⟨a0, a1, a2, a3, a4, a5, a6, a7⟩ := HK2.out.eight
    have hkl := HK2.out.lt
    go_wp2_with fail
    refine HN.out.mono ?_
    rintro e3 w3 ⟨rfl, A', cp', acc', bad', p', hL, hR⟩
    have HL := Lib.hid hL
    have HR := Lib.hid hR
    have HB3 := Lib.hid (HB2.out.trans (hL.but.below (B := w.heap.size) HB2.out.size (fun b hb => lx_none (Nat.lt_of_lt_of_le hb HGM.out))))
    clear hL hR a0 a1 a2 a3 a4 a5 a6 a7 hkl
    obtain ⟨t0, t1, t2, t3, t4, t5⟩ := HL.out.maker.blk.three
    have hml := HL.out.maker.lt
    by_cases h0 : bad' = 0
    · subst h0
      go_wp2_with fail
      go_ret3
      refine ⟨HB3.out, .inl ⟨acc', A', cp', ?_, rfl, HL.out.maker.row.slN, HL.out.maker.row.le.1, HL.out.maker.row.le.2.1⟩⟩
      rw [HC.out, if_pos (by simp)]
      rcases HR.out with ⟨a, h1, h2, _, _⟩ | ⟨c, q, _, h2, _, h4, _, _⟩
      · rw [List.nil_append] at h2; rw [h2]; exact h1
      · exact absurd h4.symm h2
    · have hbb : ((bad' : Int) != 0) = true := by simpa using h0
      go_upto_region 7 with (fail)
      go_quiet (fail)
      go_wp2_with fail
      go_ret3
      rcases HR.out with ⟨a, _, _, h3, _⟩ | ⟨c, q, h1, h2, h3, h4, h5, _⟩
      · exact absurd h3 h0
      · subst h4 h5
        exact ⟨below_drewN HB3.out _, .inr ⟨bad', q, by rw [HC.out, if_pos (by simp)]; exact h1, h2, h3, rfl⟩⟩

end Go.Proofs.YticpgjhckjhfeaaDoor

/- The law's Same of two lists of nodes (layer 11). -/
namespace Go.Proofs.YticpgjhckjhfeaaDoor
open Go.RowKit Js Pt

theorem Blk.ten' {w : World} {g : Nat} {t : TypeId} {c0 c1 c2 c3 c4 c5 c6 c7 c8 c9 : Value} (h : Blk w g t #[c0, c1, c2, c3, c4, c5, c6, c7, c8, c9]) :
    w.cell? ⟨g, 0, none⟩ = some c0 ∧ w.cell? ⟨g, 1, none⟩ = some c1 ∧ w.cell? ⟨g, 2, none⟩ = some c2 ∧ w.cell? ⟨g, 3, none⟩ = some c3 ∧ w.cell? ⟨g, 4, none⟩ = some c4 ∧ w.cell? ⟨g, 5, none⟩ = some c5 ∧ w.cell? ⟨g, 6, none⟩ = some c6 ∧ w.cell? ⟨g, 7, none⟩ = some c7 ∧ w.cell? ⟨g, 8, none⟩ = some c8 ∧ w.cell? ⟨g, 9, none⟩ = some c9 :=
  ⟨h.cell 0, h.cell 1, h.cell 2, h.cell 3, h.cell 4, h.cell 5, h.cell 6, h.cell 7, h.cell 8, h.cell 9⟩
/-- A keyword's parts, in cells. -/
theorem ItKey.cells {c : Cl} {k : Cm.Key} {cs : List Value} (h : ItKey c k cs) : ∃ (j_1 : Int) (j_2 j_3 : Bool) (j_4 : List UInt8) (j_5 : Int) (j_6 : List UInt8) (j_7 : Option Addr) (j_8 j_9 : Nat) (j_a : Option Addr) (j_b j_c : Nat) (A : Option Addr) (cp : Nat),
    cs = [.string ⟨k.name.toArray⟩, .int .i64 j_1, .bool j_2, .bool j_3, .string ⟨j_4.toArray⟩, .int .i64 j_5, .string ⟨j_6.toArray⟩, .slice j_7 j_8 j_9, .slice j_a j_b j_c, .slice A k.kids.length cp] ∧ k.v.In c (.agg #[.int .i64 j_1, .bool j_2, .bool j_3, .string ⟨j_4.toArray⟩, .int .i64 j_5, .string ⟨j_6.toArray⟩, .slice j_7 j_8 j_9, .slice j_a j_b j_c]) ∧ SlKid c A k.kids ∧ k.kids.length ≤ cp ∧ cp ≤ maxLen := by
  obtain ⟨r, A, cp, rfl, h2, h3, h4, h5⟩ := h
  obtain ⟨j_1, j_2, j_3, j_4, j_5, j_6, j_7, j_8, j_9, j_a, j_b, j_c, hr⟩ := In.cells h2
  injection hr with hr
  subst hr
  exact ⟨j_1, j_2, j_3, j_4, j_5, j_6, j_7, j_8, j_9, j_a, j_b, j_c, A, cp, rfl, h2, h3, h4, h5⟩

set_option linter.unusedVariables false in
set_option linter.unusedSimpArgs false in
set_option maxRecDepth 100000 in
set_option maxHeartbeats 4000000 in
theorem sameN_any (a : List Cm.Node) (A : Option Addr) (cA : Nat) (B : Option Addr) (cB : Nat) (w : World) (ha : SlN w.cell? A a) (hb : SlN w.cell? B a) (h1 : a.length ≤ cA) (h2 : cA ≤ maxLen) (h3 : a.length ≤ cB) (h4 : cB ≤ maxLen) :
    Calls Tryd.prog 11 #[.slice A a.length cA, .slice B a.length cB] w fun e w' => e = .returned (.int .i64 1) ∧ Below w.heap.size w w' := by
  have HA := Lib.hid ha
  have HB := Lib.hid hb
  unfold maxLen at h2 h4
  clear ha hb
  go_enter Tryd.func11, Tryd.ntmps11
  go_wp2_with fail
  go_loopw [5] (fun i wr => ∃ j : Nat, j ≤ a.length ∧ i = .int .i64 j ∧ Below w.heap.size w wr) (fun i _ => a.length - (intOf i).toNat)
  case atStart => exact ⟨0, by omega, rfl, Below.refl _ _⟩
  case round =>
    obtain ⟨j, hj, rfl, hbw⟩ := hrel
    have HW := Lib.hid hbw
    clear hbw
    by_cases hlt : j < a.length
    · obtain ⟨g, o, cs, rfl, ⟨A1, c1, rfl, hk1, hl1, hm1⟩, hc1⟩ := HA.out j _ (List.getElem?_eq_getElem hlt)
      obtain ⟨g2, o2, cs2, rfl, ⟨A2, c2, rfl, hk2, hl2, hm2⟩, hc2⟩ := HB.out j _ (List.getElem?_eq_getElem hlt)
      have e0 : wr.cell? ⟨g, o + j * 4, none⟩ = _ := (le_below HW.out) _ _ (hc1 0 _ rfl)
      have e1 : wr.cell? ⟨g, o + j * 4 + 1, none⟩ = _ := (le_below HW.out) _ _ (hc1 1 _ rfl)
      have e2 : wr.cell? ⟨g, o + j * 4 + 2, none⟩ = _ := (le_below HW.out) _ _ (hc1 2 _ rfl)
      have e3 : wr.cell? ⟨g, o + j * 4 + 3, none⟩ = _ := (le_below HW.out) _ _ (hc1 3 _ rfl)
      have d0 : wr.cell? ⟨g2, o2 + j * 4, none⟩ = _ := (le_below HW.out) _ _ (hc2 0 _ rfl)
      have d1 : wr.cell? ⟨g2, o2 + j * 4 + 1, none⟩ = _ := (le_below HW.out) _ _ (hc2 1 _ rfl)
      have d2 : wr.cell? ⟨g2, o2 + j * 4 + 2, none⟩ = _ := (le_below HW.out) _ _ (hc2 2 _ rfl)
      have d3 : wr.cell? ⟨g2, o2 + j * 4 + 3, none⟩ = _ := (le_below HW.out) _ _ (hc2 3 _ rfl)
      have HK1 := Lib.hid hk1
      have HK2 := Lib.hid hk2
      have hjj : (j : Int) < (a.length : Int) := by omega
      have hgl := World.block_lt_of_cell? _ _ e0
      have hgl2 := World.block_lt_of_cell? _ _ d0
      generalize a[j] = N at *
      obtain ⟨at_, all, pass, keys⟩ := N
      simp only at hl1 hl2 HK1 HK2 e0 e1 e2 e3 d0 d1 d2 d3
      unfold maxLen at hm1 hm2
      generalize text at_ = tx at *
      have HX := Lib.hid (show Blk ((wr.alloc (.cells #[.string ⟨tx.toArray⟩, .bool all, .bool pass, .slice A1 keys.length c1] 45)).alloc (.cells #[.string ⟨tx.toArray⟩, .bool all, .bool pass, .slice A2 keys.length c2] 45)) wr.heap.size 45 _ from (Blk.new wr _ _).alloc _)
      have HY := Lib.hid (Blk.new2 wr (.cells #[.string ⟨tx.toArray⟩, .bool all, .bool pass, .slice A1 keys.length c1] 45) 45 #[.string ⟨tx.toArray⟩, .bool all, .bool pass, .slice A2 keys.length c2])
      have HBB := Lib.hid (HW.out.trans ((((Below.refl wr.heap.size wr).alloc (Nat.le_refl _) (.cells #[.string ⟨tx.toArray⟩, .bool all, .bool pass, .slice A1 keys.length c1] 45)).alloc (by simp) (.cells #[.string ⟨tx.toArray⟩, .bool all, .bool pass, .slice A2 keys.length c2] 45)).mono HW.out.size))
      clear hk1 hk2 hc1 hc2
      go_upto_region 8 with (fail)
      generalize ((wr.alloc (.cells #[.string ⟨tx.toArray⟩, .bool all, .bool pass, .slice A1 keys.length c1] 45)).alloc (.cells #[.string ⟨tx.toArray⟩, .bool all, .bool pass, .slice A2 keys.length c2] 45)) = w2 at *
      have x0 := HX.out.cell 0
      have x1 := HX.out.cell 1
      have x2 := HX.out.cell 2
      have x3 := HX.out.cell 3
      have y0 := HY.out.cell 0
      have y1 := HY.out.cell 1
      have y2 := HY.out.cell 2
      have y3 := HY.out.cell 3
      clear e0 e1 e2 e3 d0 d1 d2 d3
      generalize hx : wr.heap.size = gx at *
      have hna : (all != all) = false := by cases all <;> rfl
      have hnp : (pass != pass) = false := by cases pass <;> rfl
      go_wp2_with fail
      go_loopw [8] (fun i wr => ∃ q : Nat, q ≤ keys.length ∧ i = .int .i64 q ∧ Below w2.heap.size w2 wr) (fun i _ => keys.length - (intOf i).toNat)
      case atStart => exact ⟨0, by omega, rfl, Below.refl _ _⟩
      case round =>
        obtain ⟨q, hq, rfl, hbq⟩ := hrel
        have HQ := Lib.hid hbq
        have HX2 := Lib.hid (HX.out.on hbq)
        have HY2 := Lib.hid (HY.out.on hbq)
        clear hbq x0 x1 x2 x3 y0 y1 y2 y3
        have x3 := HX2.out.cell 3
        have y3 := HY2.out.cell 3
        have hxl := HX2.out.lt
        have hyl := HY2.out.lt
        by_cases hqk : q < keys.length
        · have HW2 := Lib.hid (HBB.out.trans (HQ.out.mono HBB.out.size))
          obtain ⟨g3, o3, cs3, rfl, hi3, hc3⟩ := HK1.out q _ (List.getElem?_eq_getElem hqk)
          obtain ⟨g4, o4, cs4, rfl, hi4, hc4⟩ := HK2.out q _ (List.getElem?_eq_getElem hqk)
          obtain ⟨j_1, j_2, j_3, j_4, j_5, j_6, j_7, j_8, j_9, j_a, j_b, j_c, A3, c3, rfl, hv3, hk3, hl3, hm3⟩ := hi3.cells
          obtain ⟨i_1, i_2, i_3, i_4, i_5, i_6, i_7, i_8, i_9, i_a, i_b, i_c, A4, c4, rfl, hv4, hk4, hl4, hm4⟩ := hi4.cells
          have e0 : wr.cell? ⟨g3, o3 + q * 10, none⟩ = _ := (le_below HW2.out) _ _ (hc3 0 _ rfl)
          have e1 : wr.cell? ⟨g3, o3 + q * 10 + 1, none⟩ = _ := (le_below HW2.out) _ _ (hc3 1 _ rfl)
          have e2 : wr.cell? ⟨g3, o3 + q * 10 + 2, none⟩ = _ := (le_below HW2.out) _ _ (hc3 2 _ rfl)
          have e3 : wr.cell? ⟨g3, o3 + q * 10 + 3, none⟩ = _ := (le_below HW2.out) _ _ (hc3 3 _ rfl)
          have e4 : wr.cell? ⟨g3, o3 + q * 10 + 4, none⟩ = _ := (le_below HW2.out) _ _ (hc3 4 _ rfl)
          have e5 : wr.cell? ⟨g3, o3 + q * 10 + 5, none⟩ = _ := (le_below HW2.out) _ _ (hc3 5 _ rfl)
          have e6 : wr.cell? ⟨g3, o3 + q * 10 + 6, none⟩ = _ := (le_below HW2.out) _ _ (hc3 6 _ rfl)
          have e7 : wr.cell? ⟨g3, o3 + q * 10 + 7, none⟩ = _ := (le_below HW2.out) _ _ (hc3 7 _ rfl)
          have e8 : wr.cell? ⟨g3, o3 + q * 10 + 8, none⟩ = _ := (le_below HW2.out) _ _ (hc3 8 _ rfl)
          have e9 : wr.cell? ⟨g3, o3 + q * 10 + 9, none⟩ = _ := (le_below HW2.out) _ _ (hc3 9 _ rfl)
          have d0 : wr.cell? ⟨g4, o4 + q * 10, none⟩ = _ := (le_below HW2.out) _ _ (hc4 0 _ rfl)
          have d1 : wr.cell? ⟨g4, o4 + q * 10 + 1, none⟩ = _ := (le_below HW2.out) _ _ (hc4 1 _ rfl)
          have d2 : wr.cell? ⟨g4, o4 + q * 10 + 2, none⟩ = _ := (le_below HW2.out) _ _ (hc4 2 _ rfl)
          have d3 : wr.cell? ⟨g4, o4 + q * 10 + 3, none⟩ = _ := (le_below HW2.out) _ _ (hc4 3 _ rfl)
          have d4 : wr.cell? ⟨g4, o4 + q * 10 + 4, none⟩ = _ := (le_below HW2.out) _ _ (hc4 4 _ rfl)
          have d5 : wr.cell? ⟨g4, o4 + q * 10 + 5, none⟩ = _ := (le_below HW2.out) _ _ (hc4 5 _ rfl)
          have d6 : wr.cell? ⟨g4, o4 + q * 10 + 6, none⟩ = _ := (le_below HW2.out) _ _ (hc4 6 _ rfl)
          have d7 : wr.cell? ⟨g4, o4 + q * 10 + 7, none⟩ = _ := (le_below HW2.out) _ _ (hc4 7 _ rfl)
          have d8 : wr.cell? ⟨g4, o4 + q * 10 + 8, none⟩ = _ := (le_below HW2.out) _ _ (hc4 8 _ rfl)
          have d9 : wr.cell? ⟨g4, o4 + q * 10 + 9, none⟩ = _ := (le_below HW2.out) _ _ (hc4 9 _ rfl)
          have HL3 := Lib.hid hk3
          have HL4 := Lib.hid hk4
          have HV3 := Lib.hid hv3
          have HV4 := Lib.hid hv4
          have hqi : (q : Int) < (keys.length : Int) := by omega
          have hgl3 := World.block_lt_of_cell? _ _ e0
          have hgl4 := World.block_lt_of_cell? _ _ d0
          clear hi3 hi4 hc3 hc4 hk3 hk4 hv3 hv4
          generalize keys[q]'hqk = K at *
          obtain ⟨nm, kv, kids⟩ := K
          simp only at hl3 hl4 HL3 HL4 HV3 HV4 e0 e9 d0 d9
          unfold maxLen at hm3 hm4
          have HP := Lib.hid ((Blk.new wr 48 #[.string ⟨nm.toArray⟩, .int .i64 j_1, .bool j_2, .bool j_3, .string ⟨j_4.toArray⟩, .int .i64 j_5, .string ⟨j_6.toArray⟩, .slice j_7 j_8 j_9, .slice j_a j_b j_c, .slice A3 kids.length c3]).alloc (.cells #[.string ⟨nm.toArray⟩, .int .i64 i_1, .bool i_2, .bool i_3, .string ⟨i_4.toArray⟩, .int .i64 i_5, .string ⟨i_6.toArray⟩, .slice i_7 i_8 i_9, .slice i_a i_b i_c, .slice A4 kids.length c4] 48))
          have HR := Lib.hid (Blk.new2 wr (.cells #[.string ⟨nm.toArray⟩, .int .i64 j_1, .bool j_2, .bool j_3, .string ⟨j_4.toArray⟩, .int .i64 j_5, .string ⟨j_6.toArray⟩, .slice j_7 j_8 j_9, .slice j_a j_b j_c, .slice A3 kids.length c3] 48) 48 #[.string ⟨nm.toArray⟩, .int .i64 i_1, .bool i_2, .bool i_3, .string ⟨i_4.toArray⟩, .int .i64 i_5, .string ⟨i_6.toArray⟩, .slice i_7 i_8 i_9, .slice i_a i_b i_c, .slice A4 kids.length c4])
          have hb4 := ((Below.refl wr.heap.size wr).alloc (Nat.le_refl _) (.cells #[.string ⟨nm.toArray⟩, .int .i64 j_1, .bool j_2, .bool j_3, .string ⟨j_4.toArray⟩, .int .i64 j_5, .string ⟨j_6.toArray⟩, .slice j_7 j_8 j_9, .slice j_a j_b j_c, .slice A3 kids.length c3] 48)).alloc (by simp) (.cells #[.string ⟨nm.toArray⟩, .int .i64 i_1, .bool i_2, .bool i_3, .string ⟨i_4.toArray⟩, .int .i64 i_5, .string ⟨i_6.toArray⟩, .slice i_7 i_8 i_9, .slice i_a i_b i_c, .slice A4 kids.length c4] 48)
          have HQ4 := Lib.hid (HQ.out.trans (hb4.mono HQ.out.size))
          have HW4 := Lib.hid (HW2.out.trans (hb4.mono HW2.out.size))
          clear hb4
          go_upto_region 15 with (fail)
          generalize ((wr.alloc (.cells #[.string ⟨nm.toArray⟩, .int .i64 j_1, .bool j_2, .bool j_3, .string ⟨j_4.toArray⟩, .int .i64 j_5, .string ⟨j_6.toArray⟩, .slice j_7 j_8 j_9, .slice j_a j_b j_c, .slice A3 kids.length c3] 48)).alloc (.cells #[.string ⟨nm.toArray⟩, .int .i64 i_1, .bool i_2, .bool i_3, .string ⟨i_4.toArray⟩, .int .i64 i_5, .string ⟨i_6.toArray⟩, .slice i_7 i_8 i_9, .slice i_a i_b i_c, .slice A4 kids.length c4] 48)) = w4 at *
          generalize wr.heap.size = gp at *
          clear e0 e1 e2 e3 e4 e5 e6 e7 e8 e9 d0 d1 d2 d3 d4 d5 d6 d7 d8 d9 x3 y3
          obtain ⟨p0, p1, p2, p3, p4, p5, p6, p7, p8, p9⟩ := HP.out.ten'
          obtain ⟨r0, r1, r2, r3, r4, r5, r6, r7, r8, r9⟩ := HR.out.ten'
          have hpl := HP.out.lt
          have hrl := HR.out.lt
          have HSM := Lib.hid (refSame_any kv kv _ _ w4 (In.keep (le_below HW4.out) _ _ HV3.out) (In.keep (le_below HW4.out) _ _ HV4.out))
          rw [same_refl] at HSM
          go_wp2_with fail
          refine HSM.out.mono ?_
          rintro e8 w5 ⟨rfl, hb5⟩
          have HQ5 := Lib.hid (HQ4.out.trans (hb5.mono HQ4.out.size))
          have HW5 := Lib.hid (HW4.out.trans (hb5.mono HW4.out.size))
          have HP5 := Lib.hid (HP.out.on hb5)
          have HR5 := Lib.hid (HR.out.on hb5)
          clear hb5 p0 p1 p2 p3 p4 p5 p6 p7 p8 p9 r0 r1 r2 r3 r4 r5 r6 r7 r8 r9 hpl hrl HSM
          obtain ⟨p0, p1, p2, p3, p4, p5, p6, p7, p8, p9⟩ := HP5.out.ten'
          obtain ⟨r0, r1, r2, r3, r4, r5, r6, r7, r8, r9⟩ := HR5.out.ten'
          have hpl := HP5.out.lt
          have hrl := HR5.out.lt
          go_wp2_with fail
          go_loopw [12] (fun i wr3 => ∃ u : Nat, u ≤ kids.length ∧ i = .int .i64 u ∧ Below w5.heap.size w5 wr3) (fun i _ => kids.length - (intOf i).toNat)
          case atStart => exact ⟨0, by omega, rfl, Below.refl _ _⟩
          case round =>
            obtain ⟨u, hu, rfl, hbu⟩ := hrel
            have HU := Lib.hid hbu
            have HP6 := Lib.hid (HP5.out.on hbu)
            have HR6 := Lib.hid (HR5.out.on hbu)
            clear hbu p0 p1 p2 p3 p4 p5 p6 p7 p8 p9 r0 r1 r2 r3 r4 r5 r6 r7 r8 r9 hpl hrl
            have p9 := HP6.out.cell 9
            have r9 := HR6.out.cell 9
            have hpl := HP6.out.lt
            have hrl := HR6.out.lt
            by_cases huk : u < kids.length
            · have HW6 := Lib.hid (HW5.out.trans (HU.out.mono HW5.out.size))
              obtain ⟨g5, o5, rfl, h50, h51⟩ := HL3.out u _ (List.getElem?_eq_getElem huk)
              obtain ⟨g6, o6, rfl, h60, h61⟩ := HL4.out u _ (List.getElem?_eq_getElem huk)
              have s0 := (le_below HW6.out) _ _ h50
              have s1 := (le_below HW6.out) _ _ h51
              have s2 := (le_below HW6.out) _ _ h60
              have s3 := (le_below HW6.out) _ _ h61
              clear h50 h51 h60 h61
              generalize kids[u]'huk = kd at *
              obtain ⟨ky, kn⟩ := kd
              simp only at s0 s1 s2 s3
              have hui : (u : Int) < (kids.length : Int) := by omega
              have hgl5 := World.block_lt_of_cell? _ _ s0
              have hgl6 := World.block_lt_of_cell? _ _ s2
              go_upto_region 21 with (fail)
              go_quiet (fail)
              go_wp2_with fail
              go_roundw
              case rel => exact ⟨u + 1, by omega, by go_num, below_drewN HU.out _⟩
              case measure => simp [intOf]; omega
            · obtain rfl : u = kids.length := by omega
              go_wp2_with fail
              go_roundw
              case rel => exact ⟨q + 1, by omega, by go_num, HQ5.out.trans (HU.out.mono HQ5.out.size)⟩
              case measure => simp [intOf]; omega
        · obtain rfl : q = keys.length := by omega
          go_wp2_with fail
          go_roundw
          case rel => exact ⟨j + 1, by omega, by go_num, HBB.out.trans (HQ.out.mono HBB.out.size)⟩
          case measure => simp [intOf]; omega
    · obtain rfl : j = a.length := by omega
      go_wp2_with fail
      go_ret
      exact ⟨rfl, HW.out⟩

end Go.Proofs.YticpgjhckjhfeaaDoor


