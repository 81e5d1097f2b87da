/- Nh: Zk Zl Ym, in one text. -/
import Derived.Test.YtnnklbfpgmndoaaGreatDoorNf
import Derived.Recover
import Derived.Test.YtnnklbfpgmndoaaGreatDoorNg
/- The program's parse, eleventh part: value's walk, if array and object are as they should be. -/
namespace Go.Proofs.YtnnklbfpgmndoaaGreatDoor
open Go.RowKit Js

theorem core_num {f d : Nat} {c : UInt8} {u : List UInt8} (h : c = 45 ∨ Nm.dig c = true) : (if c = 123 then Ps.obj f d u else if c = 91 then Ps.arr f d u else Ps.single c u) = (Ps.number (c :: u)).map Ps.mkD := by
  have hn : ∀ k : UInt8, Nm.dig k = false → k ≠ 45 → ¬ c = k := fun k h1 h2 e => by
    subst e
    rcases h with h | h
    · exact h2 h
    · rw [h1] at h; cases h
  unfold Ps.single
  rw [if_neg (hn 123 (by decide) (by decide)), if_neg (hn 91 (by decide) (by decide)), if_neg (hn 34 (by decide) (by decide)), if_neg (hn 110 (by decide) (by decide)), if_neg (hn 116 (by decide) (by decide)), if_neg (hn 102 (by decide) (by decide)), if_pos h]
theorem core_none {f d : Nat} {c : UInt8} {u : List UInt8} (h : ¬ c = 110 ∧ ¬ c = 116 ∧ ¬ c = 102 ∧ ¬ (c = 45 ∨ Nm.dig c = true) ∧ ¬ c = 34 ∧ ¬ c = 91 ∧ ¬ c = 123) : (if c = 123 then Ps.obj f d u else if c = 91 then Ps.arr f d u else Ps.single c u) = .bad 1 (c :: u).length := by
  obtain ⟨h1, h2, h3, h4, h5, h6, h7⟩ := h
  unfold Ps.single
  rw [if_neg h7, if_neg h6, if_neg h5, if_neg h1, if_neg h2, if_neg h3, if_neg h4]

set_option linter.unusedSimpArgs false in
set_option linter.unusedVariables false in
set_option maxRecDepth 100000 in
set_option maxHeartbeats 8000000 in
theorem rvalue_step (f : Nat) (HA : ArrC f) (HO : ObjC f) {rb : Nat} {s : ByteArray} {a : Nat} {t : List UInt8} {d : Nat} {w : World} (h : Pr w rb s a t d) (hs : s.size ≤ 100000) (hT : TabsR rb w) (hd : d ≤ 32) (hfu : 3 * t.length ≤ f) :
    Calls Tryz.prog 16 #[.pointer (some ⟨rb, 0, none⟩)] w (VWent rb s d w (Ps.core f d t)) := by
  have hsk := Ps.skip_len t
  have HS0 := Lib.hid ((Sole.refl rb w).alloc (.cells zero8 28))
  have HZ := Lib.hid (Blk.new w 28 zero8)
  have HN := Lib.hid (next_any (h.on ((Below.refl _ _).alloc (Nat.le_refl _) (.cells zero8 28))) (by omega))
  have HTB := Lib.hid (hT.sole HS0.out)
  have hrb := h.lt
  clear h hT
  have hq0 : ∀ W : World, (binOp .eql 69 .nilFunc .nilFunc).run Tryz.prog W = .ok (.bool true) W := fun _ => by kernel_rfl
  have hq1 : ∀ (k : Nat) (W : World), (binOp .eql 69 (.func (.func k) #[] #[]) .nilFunc).run Tryz.prog W = .ok (.bool false) W := fun _ _ => by kernel_rfl
  go_enter Tryz.func16, Tryz.ntmps16
  go_wp2_with fail
  refine HN.out.mono ?_
  rintro e w1 ⟨rfl, ⟨a1, hR⟩, hS⟩
  have HS2 := Lib.hid (HS0.out.trans hS)
  have HZ1 := Lib.hid (hS.blk HZ.out (by omega))
  have HT1 := Lib.hid (HTB.out.sole hS)
  clear hS HS0 HZ HTB
  go_wp2_with fail
  refine (wayOf_any _ _).mono ?_
  rintro e w2 ⟨rfl, rfl⟩
  cases hq : Ps.skip t with
  | nil =>
    rw [hq] at hR
    have hl := hR.2.1
    simp only [List.length_nil, Nat.add_zero] at hl
    have HCORE := Lib.hid (show Ps.core f d t = .bad 1 0 by unfold Ps.core; rw [hq])
    have HF := Lib.hid (pfail_any s a1 1 0 (a1 : Int) 1 rfl rfl (by omega) w1)
    obtain ⟨c0, c1, c2⟩ := hR.1.three
    rw [show wayV (hb []) = .nilFunc from by simp [wayV, hb]]
    clear hR hq hl
    go_wp2_with fail
    refine HF.out.mono ?_
    rintro e w5 ⟨⟨g, p, h1, rfl, h2⟩, hb5⟩
    have HFI := Lib.hid (show VWent rb s d w (Ps.core f d t) (.panicked [{ v := .iface 52 (.agg #[.iface 47 (.pointer (some ⟨g, 0, none⟩))]), recovered := false }]) w5 by unfold VWent; rw [HCORE.out]; exact ⟨HS2.out.trans (.of_below hb5), g, p, h1, rfl, h2⟩)
    clear h1 h2 hb5
    go_wp2_with fail
    exact ⟨rfl, HFI.out⟩
  | cons c u =>
    rw [hq] at hR hsk
    simp only [List.length_cons] at hsk
    rw [show hb (c :: u) = (c.toNat : Int) from rfl]
    rcases wayV_of c with ⟨rfl, hw⟩ | ⟨rfl, hw⟩ | ⟨rfl, hw⟩ | ⟨hcd, hw⟩ | ⟨rfl, hw⟩ | ⟨rfl, hw⟩ | ⟨rfl, hw⟩ | ⟨hno, hw⟩
    · have HCORE := Lib.hid (show Ps.core f d t = ((Ps.lit [110, 117, 108, 108] (110 :: u)).map fun _ => Ps.mkN) by unfold Ps.core; rw [hq]; rfl)
      have HC := Lib.hid (null_any hR (by omega))
      rw [hw]
      clear hR hq hw
      go_wp2_with fail
      refine HC.out.mono ?_
      generalize ((Ps.lit [110, 117, 108, 108] (110 :: u)).map fun _ => Ps.mkN) = R at HCORE ⊢
      cases hr : R with
      | ok v u2 =>
        rintro e w5 ⟨hS5, ⟨x, rfl, hx⟩, a5, hP5⟩
        obtain ⟨k1, b1, n1, g1, x1, s1, A1, l1, p1, B1, m1, z1, rfl⟩ := In.cells hx
        have HR := Lib.hid (show Ps.core f d t = .ok v u2 by rw [HCORE.out, hr])
        have HS := Lib.hid (HS2.out.trans hS5)
        have HZ2 := Lib.hid (hS5.blk HZ1.out (by omega))
        have HP := Lib.hid hP5
        have HX := Lib.hid hx
        obtain ⟨z0, z1', z2, z3, z4, z5, z6, z7⟩ := HZ2.out.eight
        have zf := HZ2.out.frozen
        clear hS5 hP5 hx hr
        go_wp2_with fail
        have hfin := HZ2.out.set8 (.int .i64 k1) (.bool b1) (.bool n1) (.string ⟨g1.toArray⟩) (.int .i64 x1) (.string ⟨s1.toArray⟩) (.slice A1 l1 p1) (.slice B1 m1 z1)
        refine bodyPost_ret (results_row1 (l := [_, _, _, _, _, _, _, _]) rfl _ _ _ rfl hfin Tryz.underlying28 rfl (by kernel_rfl)) rfl ?_
        unfold VWent
        rw [HR.out]
        exact ⟨HS.out.set8 (Nat.le_refl _) _ _ _ _ _ _ _ _, ⟨_, rfl, in_set8 HX.out (by have := HZ1.out.lt; omega) (by have := HZ1.out.lt; omega) _ _ _ _ _ _ _ _⟩, a5, HP.out.far (heap_set8 _ _ _ (by omega) _ _ _ _ _ _ _ _)⟩
      | bad k l =>
        rintro e w5 ⟨hS5, g, p, h1, rfl, h2⟩
        have HFI := Lib.hid (show VWent rb s d w (Ps.core f d t) (.panicked [{ v := .iface 52 (.agg #[.iface 47 (.pointer (some ⟨g, 0, none⟩))]), recovered := false }]) w5 by unfold VWent; rw [HCORE.out, hr]; exact ⟨HS2.out.trans hS5, g, p, h1, rfl, h2⟩)
        clear h1 h2 hS5 hr
        go_wp2_with fail
        exact ⟨rfl, HFI.out⟩
    · have HCORE := Lib.hid (show Ps.core f d t = ((Ps.lit [116, 114, 117, 101] (116 :: u)).map fun _ => Ps.mkB true) by unfold Ps.core; rw [hq]; rfl)
      have HC := Lib.hid (yes_any hR (by omega))
      rw [hw]
      clear hR hq hw
      go_wp2_with fail
      refine HC.out.mono ?_
      generalize ((Ps.lit [116, 114, 117, 101] (116 :: u)).map fun _ => Ps.mkB true) = R at HCORE ⊢
      cases hr : R with
      | ok v u2 =>
        rintro e w5 ⟨hS5, ⟨x, rfl, hx⟩, a5, hP5⟩
        obtain ⟨k1, b1, n1, g1, x1, s1, A1, l1, p1, B1, m1, z1, rfl⟩ := In.cells hx
        have HR := Lib.hid (show Ps.core f d t = .ok v u2 by rw [HCORE.out, hr])
        have HS := Lib.hid (HS2.out.trans hS5)
        have HZ2 := Lib.hid (hS5.blk HZ1.out (by omega))
        have HP := Lib.hid hP5
        have HX := Lib.hid hx
        obtain ⟨z0, z1', z2, z3, z4, z5, z6, z7⟩ := HZ2.out.eight
        have zf := HZ2.out.frozen
        clear hS5 hP5 hx hr
        go_wp2_with fail
        have hfin := HZ2.out.set8 (.int .i64 k1) (.bool b1) (.bool n1) (.string ⟨g1.toArray⟩) (.int .i64 x1) (.string ⟨s1.toArray⟩) (.slice A1 l1 p1) (.slice B1 m1 z1)
        refine bodyPost_ret (results_row1 (l := [_, _, _, _, _, _, _, _]) rfl _ _ _ rfl hfin Tryz.underlying28 rfl (by kernel_rfl)) rfl ?_
        unfold VWent
        rw [HR.out]
        exact ⟨HS.out.set8 (Nat.le_refl _) _ _ _ _ _ _ _ _, ⟨_, rfl, in_set8 HX.out (by have := HZ1.out.lt; omega) (by have := HZ1.out.lt; omega) _ _ _ _ _ _ _ _⟩, a5, HP.out.far (heap_set8 _ _ _ (by omega) _ _ _ _ _ _ _ _)⟩
      | bad k l =>
        rintro e w5 ⟨hS5, g, p, h1, rfl, h2⟩
        have HFI := Lib.hid (show VWent rb s d w (Ps.core f d t) (.panicked [{ v := .iface 52 (.agg #[.iface 47 (.pointer (some ⟨g, 0, none⟩))]), recovered := false }]) w5 by unfold VWent; rw [HCORE.out, hr]; exact ⟨HS2.out.trans hS5, g, p, h1, rfl, h2⟩)
        clear h1 h2 hS5 hr
        go_wp2_with fail
        exact ⟨rfl, HFI.out⟩
    · have HCORE := Lib.hid (show Ps.core f d t = ((Ps.lit [102, 97, 108, 115, 101] (102 :: u)).map fun _ => Ps.mkB false) by unfold Ps.core; rw [hq]; rfl)
      have HC := Lib.hid (no_any hR (by omega))
      rw [hw]
      clear hR hq hw
      go_wp2_with fail
      refine HC.out.mono ?_
      generalize ((Ps.lit [102, 97, 108, 115, 101] (102 :: u)).map fun _ => Ps.mkB false) = R at HCORE ⊢
      cases hr : R with
      | ok v u2 =>
        rintro e w5 ⟨hS5, ⟨x, rfl, hx⟩, a5, hP5⟩
        obtain ⟨k1, b1, n1, g1, x1, s1, A1, l1, p1, B1, m1, z1, rfl⟩ := In.cells hx
        have HR := Lib.hid (show Ps.core f d t = .ok v u2 by rw [HCORE.out, hr])
        have HS := Lib.hid (HS2.out.trans hS5)
        have HZ2 := Lib.hid (hS5.blk HZ1.out (by omega))
        have HP := Lib.hid hP5
        have HX := Lib.hid hx
        obtain ⟨z0, z1', z2, z3, z4, z5, z6, z7⟩ := HZ2.out.eight
        have zf := HZ2.out.frozen
        clear hS5 hP5 hx hr
        go_wp2_with fail
        have hfin := HZ2.out.set8 (.int .i64 k1) (.bool b1) (.bool n1) (.string ⟨g1.toArray⟩) (.int .i64 x1) (.string ⟨s1.toArray⟩) (.slice A1 l1 p1) (.slice B1 m1 z1)
        refine bodyPost_ret (results_row1 (l := [_, _, _, _, _, _, _, _]) rfl _ _ _ rfl hfin Tryz.underlying28 rfl (by kernel_rfl)) rfl ?_
        unfold VWent
        rw [HR.out]
        exact ⟨HS.out.set8 (Nat.le_refl _) _ _ _ _ _ _ _ _, ⟨_, rfl, in_set8 HX.out (by have := HZ1.out.lt; omega) (by have := HZ1.out.lt; omega) _ _ _ _ _ _ _ _⟩, a5, HP.out.far (heap_set8 _ _ _ (by omega) _ _ _ _ _ _ _ _)⟩
      | bad k l =>
        rintro e w5 ⟨hS5, g, p, h1, rfl, h2⟩
        have HFI := Lib.hid (show VWent rb s d w (Ps.core f d t) (.panicked [{ v := .iface 52 (.agg #[.iface 47 (.pointer (some ⟨g, 0, none⟩))]), recovered := false }]) w5 by unfold VWent; rw [HCORE.out, hr]; exact ⟨HS2.out.trans hS5, g, p, h1, rfl, h2⟩)
        clear h1 h2 hS5 hr
        go_wp2_with fail
        exact ⟨rfl, HFI.out⟩
    · have HCORE := Lib.hid (show Ps.core f d t = ((Ps.number (c :: u)).map Ps.mkD) by unfold Ps.core; rw [hq]; exact core_num hcd)
      have HC := Lib.hid (rnumber_any hR (by omega))
      rw [hw]
      clear hR hq hw
      go_wp2_with fail
      refine HC.out.mono ?_
      generalize ((Ps.number (c :: u)).map Ps.mkD) = R at HCORE ⊢
      cases hr : R with
      | ok v u2 =>
        rintro e w5 ⟨hS5, ⟨x, rfl, hx⟩, a5, hP5⟩
        obtain ⟨k1, b1, n1, g1, x1, s1, A1, l1, p1, B1, m1, z1, rfl⟩ := In.cells hx
        have HR := Lib.hid (show Ps.core f d t = .ok v u2 by rw [HCORE.out, hr])
        have HS := Lib.hid (HS2.out.trans hS5)
        have HZ2 := Lib.hid (hS5.blk HZ1.out (by omega))
        have HP := Lib.hid hP5
        have HX := Lib.hid hx
        obtain ⟨z0, z1', z2, z3, z4, z5, z6, z7⟩ := HZ2.out.eight
        have zf := HZ2.out.frozen
        clear hS5 hP5 hx hr
        go_wp2_with fail
        have hfin := HZ2.out.set8 (.int .i64 k1) (.bool b1) (.bool n1) (.string ⟨g1.toArray⟩) (.int .i64 x1) (.string ⟨s1.toArray⟩) (.slice A1 l1 p1) (.slice B1 m1 z1)
        refine bodyPost_ret (results_row1 (l := [_, _, _, _, _, _, _, _]) rfl _ _ _ rfl hfin Tryz.underlying28 rfl (by kernel_rfl)) rfl ?_
        unfold VWent
        rw [HR.out]
        exact ⟨HS.out.set8 (Nat.le_refl _) _ _ _ _ _ _ _ _, ⟨_, rfl, in_set8 HX.out (by have := HZ1.out.lt; omega) (by have := HZ1.out.lt; omega) _ _ _ _ _ _ _ _⟩, a5, HP.out.far (heap_set8 _ _ _ (by omega) _ _ _ _ _ _ _ _)⟩
      | bad k l =>
        rintro e w5 ⟨hS5, g, p, h1, rfl, h2⟩
        have HFI := Lib.hid (show VWent rb s d w (Ps.core f d t) (.panicked [{ v := .iface 52 (.agg #[.iface 47 (.pointer (some ⟨g, 0, none⟩))]), recovered := false }]) w5 by unfold VWent; rw [HCORE.out, hr]; exact ⟨HS2.out.trans hS5, g, p, h1, rfl, h2⟩)
        clear h1 h2 hS5 hr
        go_wp2_with fail
        exact ⟨rfl, HFI.out⟩
    · have HCORE := Lib.hid (show Ps.core f d t = ((Ps.qtext (34 :: u)).map Ps.mkS) by unfold Ps.core; rw [hq]; rfl)
      have HC := Lib.hid (quoted_any hR (by omega) HT1.out)
      rw [hw]
      clear hR hq hw
      go_wp2_with fail
      refine HC.out.mono ?_
      generalize ((Ps.qtext (34 :: u)).map Ps.mkS) = R at HCORE ⊢
      cases hr : R with
      | ok v u2 =>
        rintro e w5 ⟨hS5, ⟨x, rfl, hx⟩, a5, hP5⟩
        obtain ⟨k1, b1, n1, g1, x1, s1, A1, l1, p1, B1, m1, z1, rfl⟩ := In.cells hx
        have HR := Lib.hid (show Ps.core f d t = .ok v u2 by rw [HCORE.out, hr])
        have HS := Lib.hid (HS2.out.trans hS5)
        have HZ2 := Lib.hid (hS5.blk HZ1.out (by omega))
        have HP := Lib.hid hP5
        have HX := Lib.hid hx
        obtain ⟨z0, z1', z2, z3, z4, z5, z6, z7⟩ := HZ2.out.eight
        have zf := HZ2.out.frozen
        clear hS5 hP5 hx hr
        go_wp2_with fail
        have hfin := HZ2.out.set8 (.int .i64 k1) (.bool b1) (.bool n1) (.string ⟨g1.toArray⟩) (.int .i64 x1) (.string ⟨s1.toArray⟩) (.slice A1 l1 p1) (.slice B1 m1 z1)
        refine bodyPost_ret (results_row1 (l := [_, _, _, _, _, _, _, _]) rfl _ _ _ rfl hfin Tryz.underlying28 rfl (by kernel_rfl)) rfl ?_
        unfold VWent
        rw [HR.out]
        exact ⟨HS.out.set8 (Nat.le_refl _) _ _ _ _ _ _ _ _, ⟨_, rfl, in_set8 HX.out (by have := HZ1.out.lt; omega) (by have := HZ1.out.lt; omega) _ _ _ _ _ _ _ _⟩, a5, HP.out.far (heap_set8 _ _ _ (by omega) _ _ _ _ _ _ _ _)⟩
      | bad k l =>
        rintro e w5 ⟨hS5, g, p, h1, rfl, h2⟩
        have HFI := Lib.hid (show VWent rb s d w (Ps.core f d t) (.panicked [{ v := .iface 52 (.agg #[.iface 47 (.pointer (some ⟨g, 0, none⟩))]), recovered := false }]) w5 by unfold VWent; rw [HCORE.out, hr]; exact ⟨HS2.out.trans hS5, g, p, h1, rfl, h2⟩)
        clear h1 h2 hS5 hr
        go_wp2_with fail
        exact ⟨rfl, HFI.out⟩
    · have HCORE := Lib.hid (show Ps.core f d t = (Ps.arr f d u) by unfold Ps.core; rw [hq]; rfl)
      have HC := Lib.hid (HA rb s a1 u d w1 hR (by omega) HT1.out hd (by omega))
      rw [hw]
      clear hR hq hw
      go_wp2_with fail
      refine HC.out.mono ?_
      generalize (Ps.arr f d u) = R at HCORE ⊢
      cases hr : R with
      | ok v u2 =>
        rintro e w5 ⟨hS5, ⟨x, rfl, hx⟩, a5, hP5⟩
        obtain ⟨k1, b1, n1, g1, x1, s1, A1, l1, p1, B1, m1, z1, rfl⟩ := In.cells hx
        have HR := Lib.hid (show Ps.core f d t = .ok v u2 by rw [HCORE.out, hr])
        have HS := Lib.hid (HS2.out.trans hS5)
        have HZ2 := Lib.hid (hS5.blk HZ1.out (by omega))
        have HP := Lib.hid hP5
        have HX := Lib.hid hx
        obtain ⟨z0, z1', z2, z3, z4, z5, z6, z7⟩ := HZ2.out.eight
        have zf := HZ2.out.frozen
        clear hS5 hP5 hx hr
        go_wp2_with fail
        have hfin := HZ2.out.set8 (.int .i64 k1) (.bool b1) (.bool n1) (.string ⟨g1.toArray⟩) (.int .i64 x1) (.string ⟨s1.toArray⟩) (.slice A1 l1 p1) (.slice B1 m1 z1)
        refine bodyPost_ret (results_row1 (l := [_, _, _, _, _, _, _, _]) rfl _ _ _ rfl hfin Tryz.underlying28 rfl (by kernel_rfl)) rfl ?_
        unfold VWent
        rw [HR.out]
        exact ⟨HS.out.set8 (Nat.le_refl _) _ _ _ _ _ _ _ _, ⟨_, rfl, in_set8 HX.out (by have := HZ1.out.lt; omega) (by have := HZ1.out.lt; omega) _ _ _ _ _ _ _ _⟩, a5, HP.out.far (heap_set8 _ _ _ (by omega) _ _ _ _ _ _ _ _)⟩
      | bad k l =>
        rintro e w5 ⟨hS5, g, p, h1, rfl, h2⟩
        have HFI := Lib.hid (show VWent rb s d w (Ps.core f d t) (.panicked [{ v := .iface 52 (.agg #[.iface 47 (.pointer (some ⟨g, 0, none⟩))]), recovered := false }]) w5 by unfold VWent; rw [HCORE.out, hr]; exact ⟨HS2.out.trans hS5, g, p, h1, rfl, h2⟩)
        clear h1 h2 hS5 hr
        go_wp2_with fail
        exact ⟨rfl, HFI.out⟩
    · have HCORE := Lib.hid (show Ps.core f d t = (Ps.obj f d u) by unfold Ps.core; rw [hq]; rfl)
      have HC := Lib.hid (HO rb s a1 u d w1 hR (by omega) HT1.out hd (by omega))
      rw [hw]
      clear hR hq hw
      go_wp2_with fail
      refine HC.out.mono ?_
      generalize (Ps.obj f d u) = R at HCORE ⊢
      cases hr : R with
      | ok v u2 =>
        rintro e w5 ⟨hS5, ⟨x, rfl, hx⟩, a5, hP5⟩
        obtain ⟨k1, b1, n1, g1, x1, s1, A1, l1, p1, B1, m1, z1, rfl⟩ := In.cells hx
        have HR := Lib.hid (show Ps.core f d t = .ok v u2 by rw [HCORE.out, hr])
        have HS := Lib.hid (HS2.out.trans hS5)
        have HZ2 := Lib.hid (hS5.blk HZ1.out (by omega))
        have HP := Lib.hid hP5
        have HX := Lib.hid hx
        obtain ⟨z0, z1', z2, z3, z4, z5, z6, z7⟩ := HZ2.out.eight
        have zf := HZ2.out.frozen
        clear hS5 hP5 hx hr
        go_wp2_with fail
        have hfin := HZ2.out.set8 (.int .i64 k1) (.bool b1) (.bool n1) (.string ⟨g1.toArray⟩) (.int .i64 x1) (.string ⟨s1.toArray⟩) (.slice A1 l1 p1) (.slice B1 m1 z1)
        refine bodyPost_ret (results_row1 (l := [_, _, _, _, _, _, _, _]) rfl _ _ _ rfl hfin Tryz.underlying28 rfl (by kernel_rfl)) rfl ?_
        unfold VWent
        rw [HR.out]
        exact ⟨HS.out.set8 (Nat.le_refl _) _ _ _ _ _ _ _ _, ⟨_, rfl, in_set8 HX.out (by have := HZ1.out.lt; omega) (by have := HZ1.out.lt; omega) _ _ _ _ _ _ _ _⟩, a5, HP.out.far (heap_set8 _ _ _ (by omega) _ _ _ _ _ _ _ _)⟩
      | bad k l =>
        rintro e w5 ⟨hS5, g, p, h1, rfl, h2⟩
        have HFI := Lib.hid (show VWent rb s d w (Ps.core f d t) (.panicked [{ v := .iface 52 (.agg #[.iface 47 (.pointer (some ⟨g, 0, none⟩))]), recovered := false }]) w5 by unfold VWent; rw [HCORE.out, hr]; exact ⟨HS2.out.trans hS5, g, p, h1, rfl, h2⟩)
        clear h1 h2 hS5 hr
        go_wp2_with fail
        exact ⟨rfl, HFI.out⟩
    · have hl := hR.2.1
      have HCORE := Lib.hid (show Ps.core f d t = .bad 1 (c :: u).length by unfold Ps.core; rw [hq]; exact core_none hno)
      have HF := Lib.hid (pfail_any s a1 1 (c :: u).length (a1 : Int) 1 rfl rfl hl w1)
      obtain ⟨c0, c1, c2⟩ := hR.1.three
      rw [hw]
      clear hR hq hl hw hno
      go_wp2_with fail
      refine HF.out.mono ?_
      rintro e w5 ⟨⟨g, p, h1, rfl, h2⟩, hb5⟩
      have HFI := Lib.hid (show VWent rb s d w (Ps.core f d t) (.panicked [{ v := .iface 52 (.agg #[.iface 47 (.pointer (some ⟨g, 0, none⟩))]), recovered := false }]) w5 by unfold VWent; rw [HCORE.out]; exact ⟨HS2.out.trans (.of_below hb5), g, p, h1, rfl, h2⟩)
      clear h1 h2 hb5
      go_wp2_with fail
      exact ⟨rfl, HFI.out⟩

end Go.Proofs.YtnnklbfpgmndoaaGreatDoor

/- The program's parse, twelfth part: the deferred call of Parse. -/
namespace Go.Proofs.YtnnklbfpgmndoaaGreatDoor
open Go.RowKit Js

set_option maxRecDepth 100000 in
set_option maxHeartbeats 2000000 in
theorem catch_idle (vb eb : Nat) (w : World) :
    CallsD Tryz.prog 15 #[.pointer (some ⟨vb, 0, none⟩), .pointer (some ⟨eb, 0, none⟩)] .returning w fun e u' w' => e = .returned (.tuple #[]) ∧ u' = .returning ∧ w' = w := by
  refine callsD_of_wpS Tryz.func15 rfl fun c₀ cs hu => ?_
  apply wpS_seq
  apply wpS_region
  simp [wpOpsS, go_sem, recoverD, hu, Tryz.ntmps15, Exit.thenS]
  refine wpS_of_wp ?_
  go_wp2_with fail
  cases c₀
  simp_all [bodyPostS, results, Tryz.results15]

theorem amiss_is (v : Value) (w : World) : (Instr.typeAssert (.iface 52 v) 20 52 true).run Tryz.prog w = .ok (.tuple #[v, .bool true]) w := by kernel_rfl

/-- What stays as it was. -/
def Keeps (w w' : World) : Prop := w'.os = w.os ∧ w'.tape = w.tape ∧ w'.output = w.output ∧ w.heap.size ≤ w'.heap.size
theorem Keeps.trans {a b c : World} (h : Keeps a b) (k : Keeps b c) : Keeps a c := ⟨k.1.trans h.1, k.2.1.trans h.2.1, k.2.2.1.trans h.2.2.1, Nat.le_trans h.2.2.2 k.2.2.2⟩
theorem alloc_keeps (w : World) (o : Obj) : Keeps w (w.alloc o) := ⟨rfl, rfl, rfl, by simp⟩
theorem set_keeps (w : World) (a : Addr) (x : Value) : Keeps w (w.setCell a x) := ⟨rfl, rfl, rfl, by simp [World.setCell]⟩
theorem drew_keeps (w : World) : Keeps w w.drew := ⟨rfl, rfl, rfl, Nat.le_refl _⟩
theorem set8_keeps (w : World) (g : Nat) (v0 v1 v2 v3 v4 v5 v6 v7 : Value) : Keeps w (set8 w g v0 v1 v2 v3 v4 v5 v6 v7) :=
  (((((((set_keeps w _ v0).trans (set_keeps _ _ v1)).trans (set_keeps _ _ v2)).trans (set_keeps _ _ v3)).trans (set_keeps _ _ v4)).trans (set_keeps _ _ v5)).trans (set_keeps _ _ v6)).trans (set_keeps _ _ v7)

theorem amiss_fin {W W8 : World} {vb eb : Nat} {T E : TypeId} {c : Value} (hv : Blk W8 vb T zero8) (he : Blk W8 eb E #[c]) (h8 : ∀ b, b ≠ vb → W8.heap[b]? = W.heap[b]?) (hk8 : Keeps W W8) (hne : vb ≠ eb) (x : Value) :
    Blk (W8.setCell ⟨eb, 0, none⟩ x).drew vb T zero8 ∧ Blk (W8.setCell ⟨eb, 0, none⟩ x).drew eb E #[x] ∧ (∀ b, b ≠ vb → b ≠ eb → (W8.setCell ⟨eb, 0, none⟩ x).drew.heap[b]? = W.heap[b]?) ∧ Keeps W (W8.setCell ⟨eb, 0, none⟩ x).drew :=
  ⟨Blk.drew ((Below.heap_setCell W8 ⟨eb, 0, none⟩ x vb hne).trans hv), Blk.drew (he.set 0 x), fun b h1 h2 => (Below.heap_setCell W8 ⟨eb, 0, none⟩ x b h2).trans (h8 b h1), (hk8.trans (set_keeps _ _ _)).trans (drew_keeps _)⟩

set_option maxRecDepth 100000 in
set_option maxHeartbeats 4000000 in
theorem catch_amiss (vb eb g : Nat) (w : World) (c0 c1 c2 c3 c4 c5 c6 c7 : Value) (hv : Blk w vb 28 #[c0, c1, c2, c3, c4, c5, c6, c7]) (he : Blk w eb 30 #[.nilIface]) (hne : vb ≠ eb) :
    CallsD Tryz.prog 15 #[.pointer (some ⟨vb, 0, none⟩), .pointer (some ⟨eb, 0, none⟩)] (.panicking [{ v := .iface 52 (.agg #[.iface 47 (.pointer (some ⟨g, 0, none⟩))]), recovered := false }]) w fun e u' w' => e = .returned (.tuple #[]) ∧ u' = .panicking [{ v := .iface 52 (.agg #[.iface 47 (.pointer (some ⟨g, 0, none⟩))]), recovered := true }] ∧ Blk w' vb 28 zero8 ∧ Blk w' eb 30 #[.iface 47 (.pointer (some ⟨g, 0, none⟩))] ∧ (∀ b, b < w.heap.size → b ≠ vb → b ≠ eb → w'.heap[b]? = w.heap[b]?) ∧ Keeps w w' := by
  have HO := Lib.hid (alloc_keeps w (.cells #[.iface 47 (.pointer (some ⟨g, 0, none⟩))] 52))
  have hT := amiss_is
  have hv1 := hv.alloc (.cells #[.iface 47 (.pointer (some ⟨g, 0, none⟩))] 52)
  have he1 := he.alloc (.cells #[.iface 47 (.pointer (some ⟨g, 0, none⟩))] 52)
  have hn1 := Blk.new w 52 #[.iface 47 (.pointer (some ⟨g, 0, none⟩))]
  have hb1 : ∀ b, b < w.heap.size → (w.alloc (.cells #[.iface 47 (.pointer (some ⟨g, 0, none⟩))] 52)).heap[b]? = w.heap[b]? := fun b hb => Below.heap_alloc w _ b hb
  have hvl : vb ≠ w.heap.size := Nat.ne_of_lt hv.lt
  have hel : eb ≠ w.heap.size := Nat.ne_of_lt he.lt
  have HV := Lib.hid hv1
  have HE := Lib.hid he1
  have HB := Lib.hid hb1
  clear hv he hb1
  refine callsD_of_wpS Tryz.func15 rfl fun c₀ cs hu => ?_
  apply wpS_seq
  apply wpS_region
  simp [wpOpsS, go_sem, recoverD, hu, Tryz.ntmps15, Exit.thenS]
  refine wpS_of_wp ?_
  clear hv1 he1 hn1
  go_wp2_with fail
  have hn1 := Blk.new w 52 #[.iface 47 (.pointer (some ⟨g, 0, none⟩))]
  generalize w.alloc (.cells #[.iface 47 (.pointer (some ⟨g, 0, none⟩))] 52) = W1 at *
  generalize hnn : w.heap.size = n at HB hvl hel hn1 ⊢
  obtain ⟨z0, z1, z2, z3, z4, z5, z6, z7⟩ := HV.out.eight
  have zf := HV.out.frozen
  have e0 : W1.cell? ⟨eb, 0, none⟩ = some .nilIface := HE.out.cell 0
  have ef := HE.out.frozen 0
  have n0 : W1.cell? ⟨n, 0, none⟩ = some (.iface 47 (.pointer (some ⟨g, 0, none⟩))) := hn1.cell 0
  have hne' : eb ≠ vb := fun e => hne e.symm
  have hvl' : n ≠ vb := fun e => hvl e.symm
  have hel' : n ≠ eb := fun e => hel e.symm
  have HN := Lib.hid hn1
  clear hn1
  go_region
  all_goals
    go_wp2_with fail
    have hfin := amiss_fin (W := W1) (W8 := set8 W1 vb (.int .i64 0) (.bool false) (.bool false) (.string ⟨#[]⟩) (.int .i64 0) (.string ⟨#[]⟩) (.slice none 0 0) (.slice none 0 0)) (HV.out.set8 (.int .i64 0) (.bool false) (.bool false) (.string ⟨#[]⟩) (.int .i64 0) (.string ⟨#[]⟩) (.slice none 0 0) (.slice none 0 0)) ((heap_set8 W1 vb eb hne' (.int .i64 0) (.bool false) (.bool false) (.string ⟨#[]⟩) (.int .i64 0) (.string ⟨#[]⟩) (.slice none 0 0) (.slice none 0 0)).trans HE.out) (fun b h => heap_set8 W1 vb b h (.int .i64 0) (.bool false) (.bool false) (.string ⟨#[]⟩) (.int .i64 0) (.string ⟨#[]⟩) (.slice none 0 0) (.slice none 0 0)) (set8_keeps W1 vb (.int .i64 0) (.bool false) (.bool false) (.string ⟨#[]⟩) (.int .i64 0) (.string ⟨#[]⟩) (.slice none 0 0) (.slice none 0 0)) hne (.iface 47 (.pointer (some ⟨g, 0, none⟩)))
    refine ⟨rfl, _, rfl, .tuple #[], ?_, rfl, rfl, hfin.1, hfin.2.1, fun b hb h1 h2 => (hfin.2.2.1 b h1 h2).trans (HB.out b (hnn ▸ hb)), HO.out.trans hfin.2.2.2⟩
    simp [results, Tryz.results15, go_sem]

end Go.Proofs.YtnnklbfpgmndoaaGreatDoor

/- The program's parse: value closed, and Parse. -/
namespace Go.Proofs.YtnnklbfpgmndoaaGreatDoor
open Go.RowKit Js

theorem vcz_all : ∀ f, VCz f := by
  intro f
  induction f using Nat.strongRecOn with
  | ind f ih =>
    have HA : ArrC f := by
      cases f with
      | zero => intro rb s a u d w h hs hT hd hfu; omega
      | succ g => exact array_step g (fun f' hf' => ih f' (by omega))
    have HO : ObjC f := by
      cases f with
      | zero => intro rb s a u d w h hs hT hd hfu; omega
      | succ g => exact object_step g (fun f' hf' => ih f' (by omega))
    intro rb s a t d w h hs hT hd hfu
    exact rvalue_step f HA HO h hs hT hd hfu

/-- What Parse comes to. -/
def PzPost (s : ByteArray) (w : World) (e : Ending) (w' : World) : Prop :=
  Below w.heap.size w w' ∧ (match Ps.parse s.data.toList with
    | .ok v _ => ∃ x, e = .returned (.tuple #[x, .nilIface]) ∧ v.In (w'.on (w.heap.size ≤ ·)) x
    | .bad c l => ∃ g p : Nat, p + l = s.size ∧ e = .returned (.tuple #[.agg zero8, .iface 47 (.pointer (some ⟨g, 0, none⟩))]) ∧ SpotAt w' g p c)

theorem results_two {fn : Func} {p q : Tmp} {ty te : TypeId} (h : fn.results = #[.cell p ty, .cell q te]) (tmps : Array Value) (P : Program) (w : World) {g g2 : Nat} {t : TypeId} {l : List Value} {d : TypeDesc} {x : Value}
    (hp : tmps.getD p undef = .pointer (some ⟨g, 0, none⟩)) (hg : Blk w g t l.toArray) (hu : P.underlying ty = some d) (hd : d.isRow = true) (hi : (P.info? ty).map (·.size) = some l.length)
    (hq : tmps.getD q undef = .pointer (some ⟨g2, 0, none⟩)) (hx : (loadVar te ⟨g2, 0, none⟩).run P w = .ok x w) :
    (results fn tmps).run P w = .ok (.tuple #[.agg l.toArray, x]) w := by
  have hl : (loadVar ty ⟨g, 0, none⟩).run P w = .ok (.agg l.toArray) w := run_loadVar_mid w g 0 ty l d (fun j v hv => by rw [Nat.zero_add, hg.cell j]; simpa using hv) hu hd hi
  simp only [results, h]
  have hp' : tmps[p]?.getD undef = .pointer (some ⟨g, 0, none⟩) := by simpa using hp
  have hq' : tmps[q]?.getD undef = .pointer (some ⟨g2, 0, none⟩) := by simpa using hq
  simp [Result.andThen, hp', hq', asAddr, hl, hx]

theorem load_err {w : World} {g : Nat} {x : Value} (h : w.cell? ⟨g, 0, none⟩ = some x) : (loadVar 30 ⟨g, 0, none⟩).run Tryz.prog w = .ok x w := by
  have ha : (isAgg 30).run Tryz.prog w = .ok false w := by kernel_rfl
  simp [loadVar, ha, h, go_sem, Result.andThen]

/-- The world in which Parse begins to read. -/
abbrev parW (w : World) (s : ByteArray) : World :=
  ((w.alloc (.cells zero8 28)).alloc (.cells #[.nilIface] 30)).alloc (.cells #[.string s, .int .i64 0, .int .i64 0] 54)
theorem parW_size (w : World) (s : ByteArray) : (parW w s).heap.size = w.heap.size + 3 := by simp [parW]
theorem parW_below (w : World) (s : ByteArray) : Below w.heap.size w (parW w s) := (((Below.refl _ _).alloc (Nat.le_refl _) _).alloc (by simp) _).alloc (by simp; omega) _
theorem parW_v (w : World) (s : ByteArray) : Blk (parW w s) w.heap.size 28 zero8 := ((Blk.new w _ _).alloc _).alloc _
theorem parW_e (w : World) (s : ByteArray) : Blk (parW w s) (w.heap.size + 1) 30 #[.nilIface] := (Blk.new2 w _ _ _).alloc _
theorem parW_r (w : World) (s : ByteArray) : Pr (parW w s) (w.heap.size + 1 + 1) s 0 s.data.toList 0 := by
  have h := Blk.new ((w.alloc (.cells zero8 28)).alloc (.cells #[.nilIface] 30)) 54 #[.string s, .int .i64 0, .int .i64 0]
  simp only [World.size_alloc] at h
  exact ⟨h, by rw [← Lib.size_eq, Nat.zero_add], rfl⟩

/-- The end: the value is stored, and no error. -/
theorem ret_fin {w W : World} {s : ByteArray} {v : Vl} {u : List UInt8} {T E : TypeId} {c v0 v1 v2 v3 v4 v5 v6 v7 : Value} {B : Nat} (hW : Below w.heap.size w W) (hB : w.heap.size + 2 ≤ B) (hP : Ps.parse s.data.toList = .ok v u)
    (hv : Blk W w.heap.size T #[v0, v1, v2, v3, v4, v5, v6, v7]) (he : Blk W (w.heap.size + 1) E #[c]) (hx : v.In (W.on (B ≤ ·)) (.agg #[v0, v1, v2, v3, v4, v5, v6, v7])) :
    Blk ((set8 W w.heap.size v0 v1 v2 v3 v4 v5 v6 v7).setCell ⟨w.heap.size + 1, 0, none⟩ .nilIface) w.heap.size T #[v0, v1, v2, v3, v4, v5, v6, v7] ∧
    ((set8 W w.heap.size v0 v1 v2 v3 v4 v5 v6 v7).setCell ⟨w.heap.size + 1, 0, none⟩ .nilIface).cell? ⟨w.heap.size + 1, 0, none⟩ = some .nilIface ∧
    PzPost s w (.returned (.tuple #[.agg #[v0, v1, v2, v3, v4, v5, v6, v7], .nilIface])) ((set8 W w.heap.size v0 v1 v2 v3 v4 v5 v6 v7).setCell ⟨w.heap.size + 1, 0, none⟩ .nilIface) := by
  have hv8 := hv.set8 v0 v1 v2 v3 v4 v5 v6 v7
  have he8 : Blk (set8 W w.heap.size v0 v1 v2 v3 v4 v5 v6 v7) (w.heap.size + 1) E #[c] := (heap_set8 W w.heap.size (w.heap.size + 1) (by omega) v0 v1 v2 v3 v4 v5 v6 v7).trans he
  have hx8 := in_set8 hx (show w.heap.size < B by omega) (Nat.le_refl B) v0 v1 v2 v3 v4 v5 v6 v7
  have hb8 := below_set8 hW (Nat.le_refl w.heap.size) v0 v1 v2 v3 v4 v5 v6 v7
  generalize set8 W w.heap.size v0 v1 v2 v3 v4 v5 v6 v7 = W8 at *
  have hh : ∀ k, k ≠ w.heap.size + 1 → (W8.setCell ⟨w.heap.size + 1, 0, none⟩ .nilIface).heap[k]? = W8.heap[k]? := fun k hk => Below.heap_setCell W8 ⟨w.heap.size + 1, 0, none⟩ .nilIface k hk
  refine ⟨(hh _ (by omega)).trans hv8, (he8.set 0 .nilIface).cell 0, hb8.setCell (p := ⟨w.heap.size + 1, 0, none⟩) (Nat.le_succ _) .nilIface, ?_⟩
  rw [hP]
  refine ⟨_, rfl, In.keep (fun p y hp => ?_) _ _ hx8⟩
  obtain ⟨h1, h2⟩ := on_some.1 hp
  exact on_some.2 ⟨by omega, by rw [World.cell?_of_block (w := W8) (hh p.block (by omega))]; exact h2⟩

theorem fin_end (r : Ps.R Vl) : Ps.fin r.trail = match r with
    | .bad c l => .bad c l
    | .ok v u => match endR u with
      | .bad c l => .bad c l
      | .ok _ _ => .ok v [] := by
  cases r with
  | bad c l => rfl
  | ok v u =>
    simp only [Ps.R.trail, endR]
    cases Ps.skip u with
    | nil => rfl
    | cons c u => rfl

/-- Behind the deferred call, what was amiss is told. -/
theorem par_amiss {w W W' : World} {s : ByteArray} {c l g p : Nat} (hW : Below w.heap.size w W) (hsz : w.heap.size + 3 ≤ W.heap.size) (hP : Ps.parse s.data.toList = .bad c l) (hp : p + l = s.size) (hsp : SpotAt W g p c) (hgv : g ≠ w.heap.size) (hge : g ≠ w.heap.size + 1)
    (hos : W'.os = W.os) (htape : W'.tape = W.tape) (hout : W'.output = W.output) (hsize : W.heap.size ≤ W'.heap.size) (hb : ∀ b, b < W.heap.size → b ≠ w.heap.size → b ≠ w.heap.size + 1 → W'.heap[b]? = W.heap[b]?) :
    PzPost s w (.returned (.tuple #[.agg zero8, .iface 47 (.pointer (some ⟨g, 0, none⟩))])) W' := by
  refine ⟨⟨hos.trans hW.os, htape.trans hW.tape, hout.trans hW.output, by omega, fun k hk => (hb k (by omega) (by omega) (by omega)).trans (hW.block k hk)⟩, ?_⟩
  rw [hP]
  obtain ⟨h1, h2⟩ := hsp
  have hlt := World.block_lt_of_cell? W _ h1
  have hbg := hb g hlt hgv hge
  exact ⟨g, p, hp, rfl, by rw [World.cell?_of_block (w := W) hbg]; exact h1, by rw [World.cell?_of_block (w := W) hbg]; exact h2⟩

set_option linter.unusedSimpArgs false in
set_option linter.unusedVariables false in
set_option maxRecDepth 100000 in
set_option maxHeartbeats 8000000 in
theorem pparse_any (s : ByteArray) (hs : s.size ≤ 100000) (w : World) (hT : Tabs w) : Calls Tryz.prog 7 #[.string s] w (PzPost s w) := by
  have hmf : ∀ (fn : Fn) (first cap : Array Value) (w : World), (Instr.makeFunc fn first cap).run Tryz.prog w = .ok (.func fn first cap) w := fun _ _ _ _ => rfl
  by_cases hlong : 20000 < s.size
  · have hdl : decide (20000 < s.size) = true := by simpa using hlong
    have hP : Ps.parse s.data.toList = .bad 5 (s.size - 20000) := by unfold Ps.parse; rw [← Lib.size_eq, if_pos hlong]
    have HP := Lib.hid hP
    clear hP
    go_enter_defers Tryz.func7, Tryz.ntmps7
    go_wp2_with fail
    have hv := ((Blk.new w 28 zero8).alloc (.cells #[.iface 47 (.pointer (some ⟨w.heap.size + 1 + 1, 0, none⟩))] 30)).alloc (.cells #[.int .i64 20000, .int .i64 5] 50)
    have he := (Blk.new2 w (.cells zero8 28) 30 #[.iface 47 (.pointer (some ⟨w.heap.size + 1 + 1, 0, none⟩))]).alloc (.cells #[.int .i64 20000, .int .i64 5] 50)
    have hsp := Blk.new ((w.alloc (.cells zero8 28)).alloc (.cells #[.iface 47 (.pointer (some ⟨w.heap.size + 1 + 1, 0, none⟩))] 30)) 50 #[.int .i64 20000, .int .i64 5]
    simp only [World.size_alloc] at hsp
    refine ⟨_, results_two (l := [_, _, _, _, _, _, _, _]) rfl _ _ _ rfl hv Tryz.underlying28 rfl (by kernel_rfl) rfl (load_err (he.cell 0)), ?_⟩
    refine ⟨(((Below.refl _ _).alloc (Nat.le_refl _) _).alloc (by simp) _).alloc (by simp; omega) _, ?_⟩
    rw [HP.out]
    exact ⟨w.heap.size + 1 + 1, 20000, by omega, rfl, hsp.cell 0, hsp.cell 1⟩
  · have hdl : decide (20000 < s.size) = false := by simpa using hlong
    have hT3 : TabsR (w.heap.size + 1 + 1) (parW w s) := ⟨hT.on (parW_below w s), by have := hT.lt; omega, by have := hT.lt; omega⟩
    have HV := Lib.hid (vcz_all (3 * s.size) (w.heap.size + 1 + 1) s 0 s.data.toList 0 (parW w s) (parW_r w s) hs hT3 (by omega) (by rw [← Lib.size_eq]; omega))
    have HP := Lib.hid (show Ps.parse s.data.toList = Ps.fin (Ps.core (3 * s.size) 0 s.data.toList).trail by
      rw [Ps.parse_fuel (by rw [← Lib.size_eq]; omega) (3 * s.size + 1) (by rw [← Lib.size_eq]; omega), Ps.core_value])
    rw [fin_end] at HP
    have hszW := parW_size w s
    clear hT3
    go_enter_defers Tryz.func7, Tryz.ntmps7
    go_wp2_with fail
    refine HV.out.mono ?_
    cases hq : Ps.core (3 * s.size) 0 s.data.toList with
    | bad c l =>
      rw [hq] at HP
      rintro e w5 ⟨hS5, g9, p9, h1, rfl, h2⟩
      have hv5 := hS5.blk (parW_v w s) (by omega)
      have he5 := hS5.blk (parW_e w s) (by omega)
      have hB5 : Below w.heap.size w w5 := (parW_below w s).trans (hS5.below (by omega) (by omega))
      have hgv : g9 ≠ w.heap.size := fun e => by
        have := h2.2; rw [e, hv5.cell 1] at this; simp at this
      have hge : g9 ≠ w.heap.size + 1 := fun e => by
        have := h2.1; rw [e, he5.cell 0] at this; simp at this
      have hsz5 := hS5.size
      have HAM := Lib.hid (fun W' => par_amiss (W' := W') hB5 (by omega) HP.out h1 h2 hgv hge)
      have HV5 := Lib.hid hv5
      have HER5 := Lib.hid he5
      clear hv5 he5 hB5 hgv hge h1 h2 hS5 hq
      go_wp2_with fail
      refine leaves_cons (f := 15) (args := #[.pointer (some ⟨w.heap.size, 0, none⟩), .pointer (some ⟨w.heap.size + 1, 0, none⟩)]) (by simp) (by simp [go_sem]) ?_
      refine (catch_amiss w.heap.size (w.heap.size + 1) g9 w5 _ _ _ _ _ _ _ _ HV5.out HER5.out (by omega)).mono ?_
      rintro e u' w'' ⟨rfl, rfl, hv6, he6, hb6, h61, h62, h63, h64⟩
      refine ⟨_, results_two (l := [_, _, _, _, _, _, _, _]) rfl _ _ _ rfl hv6 Tryz.underlying28 rfl (by kernel_rfl) rfl (load_err (he6.cell 0)), ?_⟩
      exact HAM.out w'' h61 h62 h63 h64 hb6
    | ok v u =>
      rw [hq] at HP
      rintro e w5 ⟨hS5, ⟨x, rfl, hx⟩, a5, hP5⟩
      obtain ⟨k1, b1, n1, g1, x1, s1, A1, l1, p1, B1, m1, z1, rfl⟩ := In.cells hx
      have HE5 := Lib.hid (rend_any (hP5.far (heap_set8 w5 w.heap.size _ (by omega) (.int .i64 k1) (.bool b1) (.bool n1) (.string ⟨g1.toArray⟩) (.int .i64 x1) (.string ⟨s1.toArray⟩) (.slice A1 l1 p1) (.slice B1 m1 z1))) (by omega))
      have HZ5 := Lib.hid (hS5.blk (parW_v w s) (by omega))
      have HER5 := Lib.hid (hS5.blk (parW_e w s) (by omega))
      have HX := Lib.hid hx
      have HS5 := Lib.hid hS5
      obtain ⟨z0, z1', z2, z3, z4, z5, z6, z7⟩ := HZ5.out.eight
      have zf := HZ5.out.frozen
      clear hS5 hP5 hx hq
      go_wp2_with fail
      refine HE5.out.mono ?_
      have HV8 := Lib.hid (HZ5.out.set8 (.int .i64 k1) (.bool b1) (.bool n1) (.string ⟨g1.toArray⟩) (.int .i64 x1) (.string ⟨s1.toArray⟩) (.slice A1 l1 p1) (.slice B1 m1 z1))
      have HE8 := Lib.hid ((heap_set8 w5 w.heap.size (w.heap.size + 1) (by omega) (.int .i64 k1) (.bool b1) (.bool n1) (.string ⟨g1.toArray⟩) (.int .i64 x1) (.string ⟨s1.toArray⟩) (.slice A1 l1 p1) (.slice B1 m1 z1)).trans HER5.out)
      have HX8 := Lib.hid (in_set8 HX.out (show w.heap.size < (parW w s).heap.size by omega) (Nat.le_refl (parW w s).heap.size) (.int .i64 k1) (.bool b1) (.bool n1) (.string ⟨g1.toArray⟩) (.int .i64 x1) (.string ⟨s1.toArray⟩) (.slice A1 l1 p1) (.slice B1 m1 z1))
      have HB8 := Lib.hid (below_set8 ((parW_below w s).trans (HS5.out.below (by omega) (by omega))) (Nat.le_refl w.heap.size) (.int .i64 k1) (.bool b1) (.bool n1) (.string ⟨g1.toArray⟩) (.int .i64 x1) (.string ⟨s1.toArray⟩) (.slice A1 l1 p1) (.slice B1 m1 z1))
      have HSZ8 := Lib.hid (show w.heap.size + 3 ≤ (Go.Proofs.YtnnklbfpgmndoaaGreatDoor.set8 w5 w.heap.size (.int .i64 k1) (.bool b1) (.bool n1) (.string ⟨g1.toArray⟩) (.int .i64 x1) (.string ⟨s1.toArray⟩) (.slice A1 l1 p1) (.slice B1 m1 z1)).heap.size by rw [size_set8]; have := HS5.out.size; omega)
      clear z0 z1' z2 z3 z4 z5 z6 z7 zf
      generalize Go.Proofs.YtnnklbfpgmndoaaGreatDoor.set8 w5 w.heap.size (.int .i64 k1) (.bool b1) (.bool n1) (.string ⟨g1.toArray⟩) (.int .i64 x1) (.string ⟨s1.toArray⟩) (.slice A1 l1 p1) (.slice B1 m1 z1) = w8 at *
      cases hq : endR u with
      | bad c l =>
        rw [hq] at HP
        rintro e w9 ⟨hS9, g9, p9, h1, rfl, h2⟩
        have hv9 := hS9.blk HV8.out (by omega)
        have he9 := hS9.blk HE8.out (by omega)
        have hB9 : Below w.heap.size w w9 := HB8.out.trans (hS9.below (by omega) (by have := HSZ8.out; omega))
        have hgv : g9 ≠ w.heap.size := fun e => by
          have := h2.2; rw [e, hv9.cell 1] at this; simp at this
        have hge : g9 ≠ w.heap.size + 1 := fun e => by
          have := h2.1; rw [e, he9.cell 0] at this; simp at this
        have hsz9 := hS9.size
        have HAM := Lib.hid (fun W' => par_amiss (W' := W') hB9 (by have := HSZ8.out; omega) HP.out h1 h2 hgv hge)
        have HV9 := Lib.hid hv9
        have HER9 := Lib.hid he9
        clear hv9 he9 hB9 hgv hge h1 h2 hS9 hq
        go_wp2_with fail
        refine leaves_cons (f := 15) (args := #[.pointer (some ⟨w.heap.size, 0, none⟩), .pointer (some ⟨w.heap.size + 1, 0, none⟩)]) (by simp) (by simp [go_sem]) ?_
        refine (catch_amiss w.heap.size (w.heap.size + 1) g9 w9 _ _ _ _ _ _ _ _ HV9.out HER9.out (by omega)).mono ?_
        rintro e u' w'' ⟨rfl, rfl, hv6, he6, hb6, h61, h62, h63, h64⟩
        refine ⟨_, results_two (l := [_, _, _, _, _, _, _, _]) rfl _ _ _ rfl hv6 Tryz.underlying28 rfl (by kernel_rfl) rfl (load_err (he6.cell 0)), ?_⟩
        exact HAM.out w'' h61 h62 h63 h64 hb6
      | ok y u9 =>
        rw [hq] at HP
        rintro e w9 ⟨hS9, ⟨x, rfl, hx⟩, a9, hP9⟩
        obtain rfl : x = .tuple #[] := hx
        have HV9 := Lib.hid (hS9.blk HV8.out (by omega))
        have HER9 := Lib.hid (hS9.blk HE8.out (by omega))
        have HB9 := Lib.hid (HB8.out.trans (hS9.below (show w.heap.size ≤ w.heap.size + 1 + 1 by omega) (by have := HSZ8.out; omega)))
        have HX9 := Lib.hid (In.keep (fun p u hp => by
          obtain ⟨h1, h2⟩ := on_some.1 hp
          have hlt := World.block_lt_of_cell? w8 _ h2
          exact on_some.2 ⟨h1, by rw [World.cell?_of_block (w := w8) (hS9.block p.block hlt (by omega))]; exact h2⟩) _ _ HX8.out)
        obtain ⟨z0, z1', z2, z3, z4, z5, z6, z7⟩ := HV9.out.eight
        have zf := HV9.out.frozen
        have e0 := HER9.out.cell 0
        simp only [List.getElem?_toArray, List.getElem?_cons_zero] at e0
        have ef := HER9.out.frozen
        have hne1 : w.heap.size ≠ w.heap.size + 1 := by omega
        clear hS9 hP9 hq
        have HFIN := Lib.hid (ret_fin HB9.out (show w.heap.size + 2 ≤ (parW w s).heap.size by omega) HP.out HV9.out HER9.out HX9.out)
        go_wp2_with fail
        obtain ⟨h10, h11, h12⟩ := HFIN.out
        refine leaves_cons (f := 15) (args := #[.pointer (some ⟨w.heap.size, 0, none⟩), .pointer (some ⟨w.heap.size + 1, 0, none⟩)]) (by simp) (by simp [go_sem]) ?_
        refine (catch_idle w.heap.size (w.heap.size + 1) _).mono ?_
        rintro e u' w'' ⟨rfl, rfl, rfl⟩
        exact ⟨_, results_two (l := [_, _, _, _, _, _, _, _]) rfl _ _ _ rfl h10 Tryz.underlying28 rfl (by kernel_rfl) rfl (load_err h11), h12⟩

end Go.Proofs.YtnnklbfpgmndoaaGreatDoor


