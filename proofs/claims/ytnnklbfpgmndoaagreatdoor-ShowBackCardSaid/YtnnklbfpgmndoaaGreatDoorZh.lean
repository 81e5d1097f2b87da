/- The program's parse, eighth part: number. -/
import Derived.Test.YtnnklbfpgmndoaaGreatDoorNb
import Derived.Test.YtnnklbfpgmndoaaGreatDoorNc
import Derived.Deep.Cut
import Derived.Deep.CutRange
namespace Go.Proofs.YtnnklbfpgmndoaaGreatDoor
open Go.RowKit Js

theorem digitsR_U (t : List UInt8) : digitsR t = Ps.digitsU t := rfl
/-- The reader has come so far. -/
def Far (rb : Nat) (s : ByteArray) (d : Nat) (w : World) (u : List UInt8) (wc : World) : Prop := (∃ a, Pr wc rb s a u d) ∧ Sole rb w wc
theorem hb_is {t : List UInt8} (k : UInt8) (hk : k ≠ 0) : (hb t == (k.toNat : Int)) = decide (t.head? = some k) := by
  cases t with
  | nil =>
    rw [show hb [] = 0 from rfl]
    rw [Bool.eq_iff_iff]
    simp
    intro e
    exact hk (UInt8.toNat_inj.1 (by show k.toNat = 0; omega))
  | cons c u =>
    rw [show hb (c :: u) = (c.toNat : Int) from rfl, Bool.eq_iff_iff]
    simp
    constructor
    · intro e; exact UInt8.toNat_inj.1 (by omega)
    · rintro rfl; rfl

theorem PrAt.alloc {rb : Nat} {s : ByteArray} {a d : Nat} {w W : World} (h : PrAt rb s a d w W) (o : Obj) : PrAt rb s a d w (W.alloc o) := h.on ((Below.refl _ _).alloc (Nat.le_refl _) _)
theorem PrAt.drew {rb : Nat} {s : ByteArray} {a d : Nat} {w W : World} (h : PrAt rb s a d w W) : PrAt rb s a d w W.drew := ⟨h.1, h.2.drew⟩
theorem PrAt.set3 {rb : Nat} {s : ByteArray} {a d : Nat} {w W : World} (h : PrAt rb s a d w W) (hr : rb < w.heap.size) (u0 u1 u2 : Value) :
    PrAt rb s a d w (((W.setCell ⟨w.heap.size, 0, none⟩ u0).setCell ⟨w.heap.size, 1, none⟩ u1).setCell ⟨w.heap.size, 2, none⟩ u2) := by
  obtain ⟨⟨h0, h1, h2⟩, h5⟩ := h
  have hc : ∀ i v, W.cell? ⟨rb, i, none⟩ = some v → (((W.setCell ⟨w.heap.size, 0, none⟩ u0).setCell ⟨w.heap.size, 1, none⟩ u1).setCell ⟨w.heap.size, 2, none⟩ u2).cell? ⟨rb, i, none⟩ = some v := fun i v h => by
    rw [World.cell?_setCell_other _ _ _ _ (by intro e; injection e with e1; omega), World.cell?_setCell_other _ _ _ _ (by intro e; injection e with e1; omega), World.cell?_setCell_other _ _ _ _ (by intro e; injection e with e1; omega)]; exact h
  exact ⟨⟨hc _ _ h0, hc _ _ h1, hc _ _ h2⟩, ((h5.setCell (p := ⟨w.heap.size, 0, none⟩) (Nat.le_refl _) u0).setCell (p := ⟨w.heap.size, 1, none⟩) (Nat.le_refl _) u1).setCell (p := ⟨w.heap.size, 2, none⟩) (Nat.le_refl _) u2⟩
/-- The number that num tells, in a block of its own, and the error. -/
def PNum (pn : Bool) (pd : List UInt8) (px : Int) (er : Value) (w : World) (x y : Value) (wr : World) : Prop :=
  ∃ nb, x = .pointer (some ⟨nb, 0, none⟩) ∧ y = er ∧ w.heap.size ≤ nb ∧ Blk wr nb 24 #[.bool pn, .string ⟨pd.toArray⟩, .int .i64 px] ∧ Below w.heap.size w wr
theorem pnum_a {pn : Bool} {pd : List UInt8} {px : Int} {er : Value} {w w6 : World} (hb : Below w.heap.size w w6) : PNum pn pd px er w (.pointer (some ⟨w6.heap.size, 0, none⟩)) er (w6.alloc (.cells #[.bool pn, .string ⟨pd.toArray⟩, .int .i64 px] 24)) :=
  ⟨_, rfl, rfl, hb.size, Blk.new w6 _ _, hb.alloc hb.size _⟩
theorem pnum_b {pn : Bool} {pd : List UInt8} {px : Int} {er : Value} {w w6 : World} (hb : Below w.heap.size w w6) (h : Blk w6 w.heap.size 24 #[.bool false, .string ⟨#[]⟩, .int .i64 0]) :
    PNum pn pd px er w (.pointer (some ⟨w.heap.size, 0, none⟩)) er (((w6.setCell ⟨w.heap.size, 0, none⟩ (.bool pn)).setCell ⟨w.heap.size, 1, none⟩ (.string ⟨pd.toArray⟩)).setCell ⟨w.heap.size, 2, none⟩ (.int .i64 px)) := by
  have h0 : Blk _ w.heap.size 24 [.bool pn, .string ⟨#[]⟩, .int .i64 0].toArray := Blk.setL (l := [.bool false, .string ⟨#[]⟩, .int .i64 0]) h 0 (.bool pn)
  have h1 : Blk _ w.heap.size 24 [.bool pn, .string ⟨pd.toArray⟩, .int .i64 0].toArray := h0.setL 1 (.string ⟨pd.toArray⟩)
  exact ⟨_, rfl, rfl, Nat.le_refl _, h1.setL 2 (.int .i64 px), ((hb.setCell (p := ⟨w.heap.size, 0, none⟩) (Nat.le_refl _) _).setCell (p := ⟨w.heap.size, 1, none⟩) (Nat.le_refl _) _).setCell (p := ⟨w.heap.size, 2, none⟩) (Nat.le_refl _) _⟩

set_option linter.unusedSimpArgs false in
set_option linter.unusedVariables false in
set_option maxRecDepth 100000 in
set_option maxHeartbeats 8000000 in
theorem rnumber_any {rb : Nat} {s : ByteArray} {a : Nat} {t : List UInt8} {d : Nat} {w : World} (h : Pr w rb s a t d) (hs : s.size ≤ 1000000) :
    Calls Tryz.prog 44 #[.pointer (some ⟨rb, 0, none⟩)] w (VWent rb s d w ((Ps.number t).map Ps.mkD)) := by
  have hb0 : Below w.heap.size w (w.alloc (.cells zero8 28)) := (Below.refl _ _).alloc (Nat.le_refl _) _
  have HS0 := Lib.hid ((Sole.refl rb w).alloc (.cells zero8 28))
  have HZ := Lib.hid (Blk.new w 28 zero8)
  have hR := h.on hb0
  have hrb := h.lt
  clear hb0 h
  go_enter Tryz.func44, Tryz.ntmps44
  go_upto_region 1 with (fail)
  generalize w.alloc (.cells zero8 28) = W at *
  have HR := Lib.hid hR
  have HRT := Lib.hid hR
  obtain ⟨c0, c1, c2⟩ := hR.1.three
  have hf := hR.1.frozen
  have HP := Lib.hid (here_any hR (by omega))
  have hal := hR.2.1
  clear hR
  go_wp2_with fail
  refine HP.out.mono ?_
  rintro e w1 ⟨rfl, n1, rfl⟩
  go_upto_if 13 with (fail)
  go_cut [] from 14 to 21 (fun wc => Far rb s d W (Ps.num1 t) wc)
  case first =>
    by_cases h1 : t.head? = some 45
    · have t1 : (hb t == 45) = true := by have := hb_is (t := t) 45 (by decide); rw [decide_eq_true h1] at this; exact this
      obtain ⟨u, rfl⟩ : ∃ u, t = 45 :: u := by cases t with
        | nil => cases h1
        | cons c u => cases h1; exact ⟨u, rfl⟩
      have HSTEP := Lib.hid (fun n => (HR.out.drewN n).step)
      simp only [List.length_cons] at hal
      have ha1 : a + 1 ≤ s.size := by omega
      have HN := Lib.hid (show Ps.num1 (45 :: u) = u from rfl)
      clear h1 hal
      go_wp2_with fail
      go_meet
      case rel => rw [HN.out]; exact ⟨⟨_, HSTEP.out _⟩, ((Sole.refl _ _).drewN _).set _ _⟩
    · have t1 : (hb t == 45) = false := by have := hb_is (t := t) 45 (by decide); rw [decide_eq_false h1] at this; exact this
      have HN := Lib.hid (show Ps.num1 t = t by unfold Ps.num1; rw [if_neg h1])
      clear h1 hal
      go_wp2_with fail
      go_meet
      case rel => rw [HN.out]; exact ⟨⟨_, HR.out.drewN _⟩, (Sole.refl _ _).drewN _⟩
  case rest =>
    obtain ⟨⟨a1, hR⟩, hS⟩ := hcut
    clear c0 c1 c2 hf HP hal HR
    generalize hn1 : Ps.num1 t = t1 at *
    have HN1 := Lib.hid hn1
    clear hn1
    have HR := Lib.hid hR
    have HS := Lib.hid hS
    obtain ⟨c0, c1, c2⟩ := hR.1.three
    have hf := hR.1.frozen
    have HP := Lib.hid (here_any hR (by omega))
    have HSTEP := Lib.hid (fun n => (hR.drewN n))
    have hal := hR.2.1
    clear hR hS
    go_wp2_with fail
    refine HP.out.mono ?_
    rintro e w2 ⟨rfl, n2, rfl⟩
    go_upto_if 23 with (fail)
    generalize hqd : (hb t1 == 48) = q
    have HQD := Lib.hid hqd
    clear hqd
    go_cut [] from 24 to 33 (fun wd => ∃ u2 x, Ps.num2 t1 = .ok x u2 ∧ Far rb s d W u2 wd)
    case first =>
      by_cases h1 : t1.head? = some 48
      · obtain rfl : q = true := by rw [← HQD.out]; have := hb_is (t := t1) 48 (by decide); rw [decide_eq_true h1] at this; exact this
        obtain ⟨u, rfl⟩ : ∃ u, t1 = 48 :: u := by cases t1 with
          | nil => cases h1
          | cons c u => cases h1; exact ⟨u, rfl⟩
        have HN := Lib.hid (show Ps.num2 (48 :: u) = .ok () u from rfl)
        have HST := Lib.hid (fun n => (HSTEP.out n).step)
        simp only [List.length_cons] at hal
        have ha1 : a1 + 1 ≤ s.size := by omega
        clear h1 hal
        go_wp2_with fail
        go_meet
        case rel => exact ⟨u, (), HN.out, ⟨_, HST.out _⟩, (HS.out.drewN _).set _ _⟩
      · obtain rfl : q = false := by rw [← HQD.out]; have := hb_is (t := t1) 48 (by decide); rw [decide_eq_false h1] at this; exact this
        have HN := Lib.hid (show Ps.num2 t1 = digitsR t1 by unfold Ps.num2; rw [if_neg h1]; rfl)
        have HD := Lib.hid (digits_any (HSTEP.out n2) (by omega))
        clear h1 hal
        go_wp2_with fail
        refine HD.out.mono ?_
        cases hq : digitsR t1 with
        | ok x u =>
          rintro e w5 ⟨hS, ⟨y, rfl, hy⟩, a2, hP⟩
          have hy' : y = .tuple #[] := hy
          subst hy'
          have HN2 := Lib.hid (show Ps.num2 t1 = .ok x u by rw [HN.out, hq])
          have HS2 := Lib.hid ((HS.out.drewN n2).trans hS)
          have HP2 := Lib.hid hP
          clear hS hP hy hq
          go_wp2_with fail
          go_meet
          case rel => exact ⟨u, x, HN2.out, ⟨_, HP2.out⟩, HS2.out⟩
        | bad c l =>
          have HB := Lib.hid (Ps.number_first (t := t) (c := c) (l := l) (by rw [HN1.out, HN.out, hq]))
          clear hq
          rintro e w5 ⟨hS, g, p, h5, rfl, h6⟩
          have HFI := Lib.hid (show VWent rb s d w ((Ps.number t).map Ps.mkD) (.panicked [{ v := .iface 52 (.agg #[.iface 47 (.pointer (some ⟨g, 0, none⟩))]), recovered := false }]) w5 by unfold VWent; rw [HB.out]; exact ⟨HS0.out.trans ((HS.out.drewN n2).trans hS), g, p, h5, rfl, h6⟩)
          clear h5 h6 hS
          go_wp2_with fail
          exact ⟨rfl, HFI.out⟩
    case rest =>
      obtain ⟨t2, x2, hn2, ⟨a2, hR⟩, hS⟩ := hcut
      have HN2 := Lib.hid (show Ps.num2 (Ps.num1 t) = .ok x2 t2 by rw [HN1.out]; exact hn2)
      clear c0 c1 c2 hf HP hal HR HS HSTEP hn2 HQD
      have HR := Lib.hid hR
      have HS := Lib.hid hS
      obtain ⟨c0, c1, c2⟩ := hR.1.three
      have hf := hR.1.frozen
      have HP := Lib.hid (here_any hR (by omega))
      have HSTEP := Lib.hid (fun n => (hR.drewN n))
      have hal := hR.2.1
      clear hR hS
      go_wp2_with fail
      refine HP.out.mono ?_
      rintro e w2 ⟨rfl, n2, rfl⟩
      go_upto_if 35 with (fail)
      generalize hqd : (hb t2 == 46) = q
      have HQD := Lib.hid hqd
      clear hqd
      go_cut [] from 36 to 45 (fun we => ∃ u3 x, Ps.num3 t2 = .ok x u3 ∧ Far rb s d W u3 we)
      case first =>
        by_cases h1 : t2.head? = some 46
        · obtain rfl : q = true := by rw [← HQD.out]; have := hb_is (t := t2) 46 (by decide); rw [decide_eq_true h1] at this; exact this
          obtain ⟨u, rfl⟩ : ∃ u, t2 = 46 :: u := by cases t2 with
            | nil => cases h1
            | cons c u => cases h1; exact ⟨u, rfl⟩
          have HN := Lib.hid (show Ps.num3 (46 :: u) = digitsR u from rfl)
          have HST := Lib.hid (fun n => (HSTEP.out n).step)
          simp only [List.length_cons] at hal
          have ha1 : a2 + 1 ≤ s.size := by omega
          have HD := Lib.hid (digits_any (HST.out n2) (by omega))
          clear h1 hal
          go_wp2_with fail
          refine HD.out.mono ?_
          cases hq : digitsR u with
          | ok x v =>
            rintro e w5 ⟨hS, ⟨y, rfl, hy⟩, a3, hP⟩
            have hy' : y = .tuple #[] := hy
            subst hy'
            have HN3 := Lib.hid (show Ps.num3 (46 :: u) = .ok x v by rw [HN.out, hq])
            have HS2 := Lib.hid (((HS.out.drewN n2).set _ _).trans hS)
            have HP2 := Lib.hid hP
            clear hS hP hy hq
            go_wp2_with fail
            go_meet
            case rel => exact ⟨v, x, HN3.out, ⟨_, HP2.out⟩, HS2.out⟩
          | bad c l =>
            have HB := Lib.hid (Ps.number_point (c := c) (l := l) HN2.out (by rw [HN.out, hq]))
            clear hq
            rintro e w5 ⟨hS, g, p, h5, rfl, h6⟩
            have HFI := Lib.hid (show VWent rb s d w ((Ps.number t).map Ps.mkD) (.panicked [{ v := .iface 52 (.agg #[.iface 47 (.pointer (some ⟨g, 0, none⟩))]), recovered := false }]) w5 by unfold VWent; rw [HB.out]; exact ⟨HS0.out.trans (((HS.out.drewN n2).set _ _).trans hS), g, p, h5, rfl, h6⟩)
            clear h5 h6 hS
            go_wp2_with fail
            exact ⟨rfl, HFI.out⟩
        · obtain rfl : q = false := by rw [← HQD.out]; have := hb_is (t := t2) 46 (by decide); rw [decide_eq_false h1] at this; exact this
          have HN := Lib.hid (show Ps.num3 t2 = .ok () t2 by unfold Ps.num3; rw [if_neg h1])
          clear h1 hal
          go_wp2_with fail
          go_meet
          case rel => exact ⟨t2, (), HN.out, ⟨_, HR.out.drewN _⟩, HS.out.drewN _⟩
      case rest =>
        obtain ⟨t3, x3, hn3, ⟨a3, hR⟩, hS⟩ := hcut
        have HN3 := Lib.hid hn3
        clear c0 c1 c2 hf HP hal HR HS HSTEP hn3 HQD
        have HR := Lib.hid hR
        have HS := Lib.hid hS
        obtain ⟨c0, c1, c2⟩ := hR.1.three
        have hf := hR.1.frozen
        have HP := Lib.hid (here_any hR (by omega))
        have HSTEP := Lib.hid (fun n => (hR.drewN n))
        have hal := hR.2.1
        clear hR hS
        by_cases hE : t3.head? = some 101 ∨ t3.head? = some 69
        · obtain ⟨c, u, rfl⟩ : ∃ c u, t3 = c :: u := by cases t3 with
            | nil => rcases hE with hE | hE <;> cases hE
            | cons c u => exact ⟨c, u, rfl⟩
          have HN4 := Lib.hid (show Ps.num4 (c :: u) = digitsR (Nm.unsgn u) by unfold Ps.num4; rw [if_pos hE]; rfl)
          have hways : hb (c :: u) = 101 ∨ (((hb (c :: u) == 101) = false) ∧ hb (c :: u) = 69) := by
            rcases hE with hE | hE
            · left; cases hE; rfl
            · right; cases hE; exact ⟨rfl, rfl⟩
          have HST := Lib.hid (fun n => (HSTEP.out n).step)
          simp only [List.length_cons] at hal
          have ha1 : a3 + 1 ≤ s.size := by omega
          clear hE hal HSTEP
          have hdec : (((hb (c :: u) == 101) = true) ∨ (((hb (c :: u) == 101) = false) ∧ (hb (c :: u) == 69) = true)) := by
            rcases hways with h | ⟨h, h'⟩
            · left; rw [h]; rfl
            · right; exact ⟨h, by rw [h']; rfl⟩
          clear hways
          generalize hb (c :: u) = xb at HP hdec
          rcases hdec with e1 | ⟨e1, e2⟩
          all_goals
            go_wp2_with fail
            refine HP.out.mono ?_
            rintro e w2 ⟨rfl, n2, rfl⟩
            have HSG := Lib.hid (rsign_any (HST.out n2) (by omega))
            go_wp2_with fail
            refine HSG.out.mono ?_
            rintro e w3 ⟨hS3, ⟨y, rfl, hy⟩, a5, hP5⟩
            have hy' : y = .tuple #[] := hy
            subst hy'
            have HS3 := Lib.hid (((HS.out.drewN n2).set 1 (.int .i64 ((a3 : Int) + 1))).trans hS3)
            have HDG := Lib.hid (digits_any hP5 (by omega))
            clear hS3 hP5 hy HSG
            go_wp2_with fail
            refine HDG.out.mono ?_
            cases hq : digitsR (Nm.unsgn u) with
            | bad k l =>
              have HB := Lib.hid (Ps.number_exp (c := k) (l := l) HN2.out HN3.out (by rw [HN4.out, hq]))
              clear hq
              rintro e w5 ⟨hS, g, p, h5, rfl, h6⟩
              have HFI := Lib.hid (show VWent rb s d w ((Ps.number t).map Ps.mkD) (.panicked [{ v := .iface 52 (.agg #[.iface 47 (.pointer (some ⟨g, 0, none⟩))]), recovered := false }]) w5 by unfold VWent; rw [HB.out]; exact ⟨HS0.out.trans (HS3.out.trans hS), g, p, h5, rfl, h6⟩)
              clear h5 h6 hS
              go_wp2_with fail
              exact ⟨rfl, HFI.out⟩
            | ok x4 t4 =>
              rintro e w5 ⟨hS, ⟨y, rfl, hy⟩, a4, hP4⟩
              have hy' : y = .tuple #[] := hy
              subst hy'
              have HN4 := Lib.hid (show Ps.num4 (c :: u) = .ok x4 t4 by rw [HN4.out, hq])
              have hal4 := hP4.2.1
              have HW5 := Lib.hid hP4
              have HS5 := Lib.hid (HS3.out.trans hS)
              clear hq hP4 hS hy
              have HE := Lib.hid (Ps.number_end HN2.out HN3.out HN4.out)
              have hrl := (Ps.end_rest t).1.len
              rw [HE.out.1] at hrl
              simp only at hrl
              have hta := HRT.out.2.1
              have hle : a ≤ a4 := by omega
              have hle2 : a4 ≤ s.size := by omega
              have hEX : s.extract a a4 = ⟨(t.take (t.length - t4.length)).toArray⟩ := by
                rw [Lib.extract_eq, HRT.out.2.2, show a4 - a = t.length - t4.length by omega]
              have hsz : (s.extract a a4).size ≤ 140737488355328 := by
                rw [hEX, Lib.size_mk, List.length_take]; omega
              have hpc := fun V => parse_any (s.extract a a4) V hsz
              rw [show (s.extract a a4).data.toList = t.take (t.length - t4.length) by rw [hEX]] at hpc
              have hnum := HE.out.2
              generalize Nm.parse (t.take (t.length - t4.length)) = r at hpc hnum
              have HPC := Lib.hid hpc
              have HNUM := Lib.hid hnum
              clear hpc hnum hEX hsz hrl hta hal4
              obtain ⟨⟨rn, rd, rx⟩, re⟩ := r
              clear c0 c1 c2 hf HR HS HP HST HS3 HDG
              go_wp2_with fail
              try clear e1 e2
              obtain ⟨c0, c1, c2⟩ := HW5.out.1.three
              have HLT := Lib.hid HW5.out.lt
              have HF0 := Lib.hid (show PrAt rb s a4 d w5 w5 from ⟨⟨c0, c1, c2⟩, Below.refl _ _⟩)
              have HFd := Lib.hid (PrAt.drew HF0.out)
              clear c0 c1 c2
              go_cut [5, 6] from 64 to 78 (fun x y wz => PNum rn rd rx (errV re) w5 x y wz)
              case first =>
                go_region_held3 (fun w' => (w'.cell? ⟨rb, 0, none⟩ = some (.string s) ∧ w'.cell? ⟨rb, 1, none⟩ = some (.int .i64 a4) ∧ w'.cell? ⟨rb, 2, none⟩ = some (.int .i64 d)) ∧ Below w5.heap.size w5 w')
                  ((show PrAt rb s a4 d w5 _; first | (with_reducible exact ht) | (with_reducible exact HFd.out) | (with_reducible exact PrAt.alloc ht _) | (with_reducible exact PrAt.drew (PrAt.alloc HF0.out _)) | (with_reducible exact PrAt.set3 ht HLT.out _ _ _)))
                  (first | (go_at_call 62; refine (HPC.out _).mono ?_; rintro e w6 ⟨rfl, hb6⟩; have hz6 := hb6.size; (first | (have ht : PrAt rb s a4 d w5 w6 := (by with_reducible exact PrAt.on HFd.out hb6)) | (have ht : PrAt rb s a4 d w5 w6 := (by with_reducible exact PrAt.on (PrAt.drew (PrAt.alloc HF0.out _)) hb6); obtain ⟨nb0, nb1, nb2, nbf, nbk⟩ := num_new hb6; have HNBK := Lib.hid nbk; clear nbk)); have HBW : Hid (Below w5.heap.size w5 w6) := Lib.hid ht.2; clear hb6))
                · go_wp2_with fail
                  go_meet
                  case rel => first | exact pnum_a HBW.out | exact pnum_b HBW.out HNBK.out
                · go_wp2_with fail
                  go_meet
                  case rel => first | exact pnum_b HBW.out HNBK.out | exact pnum_a HBW.out
              case rest =>
                obtain ⟨nb, rfl, rfl, hnb, hblk, hbw⟩ := hcut
                have HR6 := Lib.hid (HW5.out.on hbw)
                have HS6 := Lib.hid (HS5.out.trans (.of_below hbw))
                have HZ6 := Lib.hid (HS6.out.blk HZ.out (by omega))
                have HB6 := Lib.hid hblk
                clear hblk hbw hnb HF0 HFd HPC
                by_cases hre : re = 0
                · subst hre
                  have HNR := Lib.hid (show (Ps.number t).map Ps.mkD = .ok (Ps.mkD ⟨rn, rd, rx⟩) t4 by rw [HNUM.out]; rfl)
                  rw [show errV 0 = .nilIface from rfl]
                  obtain ⟨n0, n1, n3⟩ := HB6.out.three
                  obtain ⟨z0, z1, z2, z3, z4, z5, z6, z7⟩ := HZ6.out.eight
                  have zf := HZ6.out.frozen
                  go_wp2_with fail
                  have hfin := HZ6.out.set8 (.int .i64 2) (.bool false) (.bool rn) (.string ⟨rd.toArray⟩) (.int .i64 rx) (.string ⟨#[]⟩) (.slice none 0 0) (.slice none 0 0)
                  refine bodyPost_ret (results_row1 (l := [_, _, _, _, _, _, _, _]) rfl _ _ _ rfl hfin Tryz.underlying28 rfl (by kernel_rfl)) rfl ?_
                  unfold VWent
                  rw [HNR.out]
                  exact ⟨(HS0.out.trans HS6.out).set8 (Nat.le_refl _) _ _ _ _ _ _ _ _, ⟨_, rfl, leaf_in _ 2 false ⟨rn, rd, rx⟩ []⟩, a4, HR6.out.far (heap_set8 _ _ _ (by omega) _ _ _ _ _ _ _ _)⟩
                · have HNR := Lib.hid (show (Ps.number t).map Ps.mkD = .bad 5 t.length by rw [HNUM.out, if_neg hre]; rfl)
                  rw [show errV re = .iface 48 (.int .i64 re) from if_neg hre]
                  have HF := Lib.hid (pfail_any s a 5 t.length (a : Int) 5 rfl rfl HRT.out.2.1 wc)
                  go_wp2_with fail
                  refine HF.out.mono ?_
                  rintro e w7 ⟨⟨g, p, h1, rfl, h2⟩, hb2⟩
                  have HFI := Lib.hid (show VWent rb s d w ((Ps.number t).map Ps.mkD) (.panicked [{ v := .iface 52 (.agg #[.iface 47 (.pointer (some ⟨g, 0, none⟩))]), recovered := false }]) w7 by unfold VWent; rw [HNR.out]; exact ⟨HS0.out.trans (HS6.out.trans (.of_below hb2)), g, p, h1, rfl, h2⟩)
                  clear h1 h2 hb2
                  go_wp2_with fail
                  exact ⟨rfl, HFI.out⟩
        · have e1 : (hb t3 == 101) = false := by have := hb_is (t := t3) 101 (by decide); rw [decide_eq_false (fun e => hE (.inl e))] at this; exact this
          have e2 : (hb t3 == 69) = false := by have := hb_is (t := t3) 69 (by decide); rw [decide_eq_false (fun e => hE (.inr e))] at this; exact this
          have HN4 := Lib.hid (show Ps.num4 t3 = .ok () t3 by unfold Ps.num4; rw [if_neg hE])
          have HE := Lib.hid (Ps.number_end HN2.out HN3.out HN4.out)
          have hrl := (Ps.end_rest t).1.len
          rw [HE.out.1] at hrl
          simp only at hrl
          have hta := HRT.out.2.1
          have hle : a ≤ a3 := by omega
          have hle2 : a3 ≤ s.size := by omega
          have hEX : s.extract a a3 = ⟨(t.take (t.length - t3.length)).toArray⟩ := by
            rw [Lib.extract_eq, HRT.out.2.2, show a3 - a = t.length - t3.length by omega]
          have hsz : (s.extract a a3).size ≤ 140737488355328 := by
            rw [hEX, Lib.size_mk, List.length_take]; omega
          have hpc := fun V => parse_any (s.extract a a3) V hsz
          rw [show (s.extract a a3).data.toList = t.take (t.length - t3.length) by rw [hEX]] at hpc
          have hnum := HE.out.2
          generalize Nm.parse (t.take (t.length - t3.length)) = r at hpc hnum
          have HPC := Lib.hid hpc
          have HNUM := Lib.hid hnum
          clear hpc hnum hEX hsz hE hrl hta hal
          obtain ⟨⟨rn, rd, rx⟩, re⟩ := r
          go_wp2_with fail
          refine HP.out.mono ?_
          rintro e w2 ⟨rfl, n2, rfl⟩
          have HW5 := Lib.hid (show Pr (wc.drewN n2) rb s a3 t3 d from HR.out.drewN _)
          have HS5 := Lib.hid (show Sole rb W (wc.drewN n2) from HS.out.drewN _)
          clear c0 c1 c2 hf HR HS HP HSTEP
          go_wp2_with fail
          clear e1 e2
          generalize wc.drewN n2 = w5 at *
          obtain ⟨c0, c1, c2⟩ := HW5.out.1.three
          have HLT := Lib.hid HW5.out.lt
          have HF0 := Lib.hid (show PrAt rb s a3 d w5 w5 from ⟨⟨c0, c1, c2⟩, Below.refl _ _⟩)
          have HFd := Lib.hid (PrAt.drew HF0.out)
          clear c0 c1 c2
          go_cut [5, 6] from 64 to 78 (fun x y wz => PNum rn rd rx (errV re) w5 x y wz)
          case first =>
            go_region_held3 (fun w' => (w'.cell? ⟨rb, 0, none⟩ = some (.string s) ∧ w'.cell? ⟨rb, 1, none⟩ = some (.int .i64 a3) ∧ w'.cell? ⟨rb, 2, none⟩ = some (.int .i64 d)) ∧ Below w5.heap.size w5 w')
              ((show PrAt rb s a3 d w5 _; first | (with_reducible exact ht) | (with_reducible exact HFd.out) | (with_reducible exact PrAt.alloc ht _) | (with_reducible exact PrAt.drew (PrAt.alloc HF0.out _)) | (with_reducible exact PrAt.set3 ht HLT.out _ _ _)))
              (first | (go_at_call 62; refine (HPC.out _).mono ?_; rintro e w6 ⟨rfl, hb6⟩; have hz6 := hb6.size; (first | (have ht : PrAt rb s a3 d w5 w6 := (by with_reducible exact PrAt.on HFd.out hb6)) | (have ht : PrAt rb s a3 d w5 w6 := (by with_reducible exact PrAt.on (PrAt.drew (PrAt.alloc HF0.out _)) hb6); obtain ⟨nb0, nb1, nb2, nbf, nbk⟩ := num_new hb6; have HNBK := Lib.hid nbk; clear nbk)); have HBW : Hid (Below w5.heap.size w5 w6) := Lib.hid ht.2; clear hb6))
            · go_wp2_with fail
              go_meet
              case rel => first | exact pnum_a HBW.out | exact pnum_b HBW.out HNBK.out
            · go_wp2_with fail
              go_meet
              case rel => first | exact pnum_b HBW.out HNBK.out | exact pnum_a HBW.out
          case rest =>
            obtain ⟨nb, rfl, rfl, hnb, hblk, hbw⟩ := hcut
            have HR6 := Lib.hid (HW5.out.on hbw)
            have HS6 := Lib.hid (HS5.out.trans (.of_below hbw))
            have HZ6 := Lib.hid (HS6.out.blk HZ.out (by omega))
            have HB6 := Lib.hid hblk
            clear hblk hbw hnb HF0 HFd HPC
            by_cases hre : re = 0
            · subst hre
              have HNR := Lib.hid (show (Ps.number t).map Ps.mkD = .ok (Ps.mkD ⟨rn, rd, rx⟩) t3 by rw [HNUM.out]; rfl)
              rw [show errV 0 = .nilIface from rfl]
              obtain ⟨n0, n1, n3⟩ := HB6.out.three
              obtain ⟨z0, z1, z2, z3, z4, z5, z6, z7⟩ := HZ6.out.eight
              have zf := HZ6.out.frozen
              go_wp2_with fail
              have hfin := HZ6.out.set8 (.int .i64 2) (.bool false) (.bool rn) (.string ⟨rd.toArray⟩) (.int .i64 rx) (.string ⟨#[]⟩) (.slice none 0 0) (.slice none 0 0)
              refine bodyPost_ret (results_row1 (l := [_, _, _, _, _, _, _, _]) rfl _ _ _ rfl hfin Tryz.underlying28 rfl (by kernel_rfl)) rfl ?_
              unfold VWent
              rw [HNR.out]
              exact ⟨(HS0.out.trans HS6.out).set8 (Nat.le_refl _) _ _ _ _ _ _ _ _, ⟨_, rfl, leaf_in _ 2 false ⟨rn, rd, rx⟩ []⟩, a3, HR6.out.far (heap_set8 _ _ _ (by omega) _ _ _ _ _ _ _ _)⟩
            · have HNR := Lib.hid (show (Ps.number t).map Ps.mkD = .bad 5 t.length by rw [HNUM.out, if_neg hre]; rfl)
              rw [show errV re = .iface 48 (.int .i64 re) from if_neg hre]
              have HF := Lib.hid (pfail_any s a 5 t.length (a : Int) 5 rfl rfl HRT.out.2.1 wc)
              go_wp2_with fail
              refine HF.out.mono ?_
              rintro e w7 ⟨⟨g, p, h1, rfl, h2⟩, hb2⟩
              have HFI := Lib.hid (show VWent rb s d w ((Ps.number t).map Ps.mkD) (.panicked [{ v := .iface 52 (.agg #[.iface 47 (.pointer (some ⟨g, 0, none⟩))]), recovered := false }]) w7 by unfold VWent; rw [HNR.out]; exact ⟨HS0.out.trans (HS6.out.trans (.of_below hb2)), g, p, h1, rfl, h2⟩)
              clear h1 h2 hb2
              go_wp2_with fail
              exact ⟨rfl, HFI.out⟩

end Go.Proofs.YtnnklbfpgmndoaaGreatDoor

