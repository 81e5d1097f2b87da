/- The walks of layer 1 (num), eleventh part: NumBack at two numbers that differ. -/
import Derived.Test.YtfconmjgedaifaaDoorWj
namespace Go.Proofs.YtfconmjgedaifaaDoor
open Go.RowKit

set_option maxRecDepth 100000 in
set_option maxHeartbeats 4000000 in
theorem numBack_ne (L : Nm.Laws) (s t u : ByteArray) (k : Int) (w : World) (htab : Tab w) (ls : s.size ≤ 300) (lt : t.size ≤ 300) (lu : u.size ≤ 300) (hk0 : -9223372036854775808 ≤ k) (hk1 : k ≤ 9223372036854775807)
    {na : Bool} {da : List UInt8} {xa ea : Int} {nb : Bool} {db : List UInt8} {xb eb : Int} {nc : Bool} {dc : List UInt8} {xc ec : Int}
    (ha : Nm.parse s.data.toList = (⟨na, da, xa⟩, ea)) (hb : Nm.parse t.data.toList = (⟨nb, db, xb⟩, eb)) (hc : Nm.parse u.data.toList = (⟨nc, dc, xc⟩, ec)) (hea : ea = 0) (heb : eb = 0) (hec : ec = 0) (hq : ¬ na = nb ∨ ¬ da = db ∨ ¬ xa = xb) :
    Calls Tryd.prog 4 #[.string s, .string t, .string u, .int .i64 k] w fun e w' => e = .returned (.bool true) ∧ Below w.heap.size w w' := by
  subst hea; subst heb; subst hec
  have HT := Lib.hid htab
  clear htab
  have HA := Lib.hid ha
  have HB := Lib.hid hb
  have HC := Lib.hid hc
  clear ha hb hc
  go_enter Tryd.func4, Tryd.ntmps4
  go_wp2_with fail
  refine (up_any _ HT.out).mono ?_
  rintro e w0 ⟨rfl, hb0⟩
  go_wp2_with fail
  refine (parse_any _ _ (by omega)).mono ?_
  rw [HA.out]
  rintro e w1 ⟨rfl, hb1⟩
  go_wp2_with fail
  refine (parse_any _ _ (by omega)).mono ?_
  rw [HB.out]
  rintro e w2 ⟨rfl, hb2⟩
  have hA2 := (NumAt.new w1 na da xa 24).on hb2
  have hz1 := hb1.size
  have hz2 := hb2.size
  simp at hz2
  have k12 : w1.heap.size < w2.heap.size := by omega
  go_wp2_with fail
  refine (parse_any _ _ (by omega)).mono ?_
  rw [HC.out]
  rintro e w3 ⟨rfl, hb3⟩
  have hA3 := (hA2.alloc _).on hb3
  have hB3 := (NumAt.new w2 nb db xb 24).on hb3
  have hz3 := hb3.size
  simp at hz3
  have k13 : w1.heap.size < w3.heap.size := by omega
  have k23 : w2.heap.size < w3.heap.size := by omega
  have h03 : Below w.heap.size w w3 := hb0.trans ((hb1.mono hb0.size).trans ((((Below.refl w.heap.size w1).alloc (by have := hb0.size; omega) _).trans (hb2.mono (by have := hb0.size; simp; omega))).trans (((Below.refl w.heap.size w2).alloc (by have := hb0.size; omega) _).trans (hb3.mono (by have := hb0.size; simp; omega)))))
  clear hb1 hb2 hb3 hA2
  obtain ⟨p0, p1, p2⟩ := hA3
  obtain ⟨q0, q1, q2⟩ := hB3
  have hma := L.may s.data.toList (by rw [HA.out])
  have hmb := L.may t.data.toList (by rw [HB.out])
  have hmc := L.may u.data.toList (by rw [HC.out])
  rw [HA.out] at hma
  rw [HB.out] at hmb
  rw [HC.out] at hmc
  rw [show errV 0 = .nilIface from rfl]
  have h3a : Below w.heap.size w (w3.alloc (.cells #[.bool nc, .string ⟨dc.toArray⟩, .int .i64 xc] 24)) := h03.alloc (by have := h03.size; omega) _
  go_wp2_with fail
  refine (show_any _ _ _ _ hma.fair (HT.out.keep h3a)).mono ?_
  rintro e w4 ⟨rfl, hb4⟩
  go_wp2_with fail
  refine (parse_any _ _ (by rw [Lib.size_mk]; have := L.len _ hma; omega)).mono ?_
  rw [show (⟨(Nm.text ⟨na, da, xa⟩).toArray⟩ : ByteArray).data.toList = Nm.text ⟨na, da, xa⟩ from rfl, L.back _ hma]
  rintro e w5 ⟨rfl, hb5⟩
  have hA5 := ((NumAt.alloc (o := .cells #[.bool nc, .string ⟨dc.toArray⟩, .int .i64 xc] 24) ⟨p0, p1, p2⟩).on hb4).on hb5
  have hB5 := ((NumAt.alloc (o := .cells #[.bool nc, .string ⟨dc.toArray⟩, .int .i64 xc] 24) ⟨q0, q1, q2⟩).on hb4).on hb5
  have hC5 := ((NumAt.new w3 nc dc xc 24).on hb4).on hb5
  have h05 : Below w.heap.size w w5 := h3a.trans ((hb4.mono h3a.size).trans (hb5.mono (Nat.le_trans h3a.size hb4.size)))
  clear hb4 hb5 p0 p1 p2 q0 q1 q2 h3a
  rw [show errV 0 = .nilIface from rfl]
  have hF : FourAt w w1.heap.size w2.heap.size w3.heap.size w5.heap.size na da xa nb db xb nc dc xc (w5.alloc (.cells #[.bool na, .string ⟨da.toArray⟩, .int .i64 xa] 24)).drew :=
    ⟨hA5.alloc _, hB5.alloc _, hC5.alloc _, NumAt.new _ _ _ _ _, (h05.alloc h05.size _).drew⟩
  have hrab := L.range ⟨na, da, xa⟩ ⟨nb, db, xb⟩
  have hrba := L.range ⟨nb, db, xb⟩ ⟨na, da, xa⟩
  have hfl := L.flip _ _ hma hmb
  have hsm := L.same _ _ hma hmb
  have hnx := L.next _ _ _ hma hmb hmc
  have HFA := Lib.hid hma.fair
  have HFB := Lib.hid hmb.fair
  have HFC := Lib.hid hmc.fair
  have hwr : IntKind.i64.wrap (- Nm.cmp ⟨nb, db, xb⟩ ⟨na, da, xa⟩) = - Nm.cmp ⟨nb, db, xb⟩ ⟨na, da, xa⟩ := IntWalk.i64_in _ (by omega)
  have hne : (Nm.cmp ⟨na, da, xa⟩ ⟨nb, db, xb⟩ != - Nm.cmp ⟨nb, db, xb⟩ ⟨na, da, xa⟩) = false := by rw [← hfl]; simp
  have hc0 : (Nm.cmp ⟨na, da, xa⟩ ⟨nb, db, xb⟩ == 0) = false := by
    rw [beq_eq_false_iff_ne]
    intro e
    have h := hsm.1 e
    simp only [Nm.Num.mk.injEq] at h
    obtain ⟨e1, e2, e3⟩ := h
    rcases hq with hq | hq | hq
    · exact hq e1
    · exact hq e2
    · exact hq e3
  have HF := Lib.hid hF
  have HNX := Lib.hid hnx
  clear hF hfl hsm hnx hma hmb hmc hA5 hB5 hC5
  rcases hq with hq | hq | hq
  all_goals
    go_wp2_with fail
    go_region_held3 (fun w' => (w'.cell? ⟨w1.heap.size, 0, none⟩ = some (.bool na) ∧ w'.cell? ⟨w1.heap.size, 1, none⟩ = some (.string ⟨da.toArray⟩) ∧ w'.cell? ⟨w1.heap.size, 2, none⟩ = some (.int .i64 xa)) ∧ (w'.cell? ⟨w2.heap.size, 0, none⟩ = some (.bool nb) ∧ w'.cell? ⟨w2.heap.size, 1, none⟩ = some (.string ⟨db.toArray⟩) ∧ w'.cell? ⟨w2.heap.size, 2, none⟩ = some (.int .i64 xb)) ∧ (w'.cell? ⟨w3.heap.size, 0, none⟩ = some (.bool nc) ∧ w'.cell? ⟨w3.heap.size, 1, none⟩ = some (.string ⟨dc.toArray⟩) ∧ w'.cell? ⟨w3.heap.size, 2, none⟩ = some (.int .i64 xc)) ∧ (w'.cell? ⟨w5.heap.size, 0, none⟩ = some (.bool na) ∧ w'.cell? ⟨w5.heap.size, 1, none⟩ = some (.string ⟨da.toArray⟩) ∧ w'.cell? ⟨w5.heap.size, 2, none⟩ = some (.int .i64 xa)) ∧ Below w.heap.size w w')
      ((show FourAt w w1.heap.size w2.heap.size w3.heap.size w5.heap.size na da xa nb db xb nc dc xc _; first | (with_reducible exact ht) | (with_reducible exact HF.out)))
      (first | (go_at_call 20; refine (cmp_any _ _ _ _ _ _ _ (by first | exact HFA.out | exact HFB.out) (by first | exact HFA.out | exact HFB.out)).mono ?_; rintro e w6 ⟨rfl, hb6⟩; have ht := FourAt.on (w := w) (A := w1.heap.size) (B := w2.heap.size) (C := w3.heap.size) (X := w5.heap.size) (na := na) (da := da) (xa := xa) (nb := nb) (db := db) (xb := xb) (nc := nc) (dc := dc) (xc := xc) (by with_reducible first | exact ht | exact HF.out) hb6; clear hb6))
    have t6 := ht
    obtain ⟨⟨y0, y1, y2⟩, ⟨y3, y4, y5⟩, ⟨y6, y7, y8⟩, _, hbl⟩ := ht
    go_wp2_with fail
    refine (cmp_any _ _ _ _ _ _ _ HFA.out HFB.out).mono ?_
    rintro e w7 ⟨rfl, hb7⟩
    have t7 := FourAt.on (w := w) (A := w1.heap.size) (B := w2.heap.size) (C := w3.heap.size) (X := w5.heap.size) (na := na) (da := da) (xa := xa) (nb := nb) (db := db) (xb := xb) (nc := nc) (dc := dc) (xc := xc) t6 hb7
    clear y0 y1 y2 y3 y4 y5 y6 y7 y8 hbl hb7
    clear t6
    by_cases hab : Nm.cmp ⟨na, da, xa⟩ ⟨nb, db, xb⟩ ≤ 0
    · have hab' : decide (Nm.cmp ⟨na, da, xa⟩ ⟨nb, db, xb⟩ ≤ 0) = true := by simpa using hab
      have t7' := t7
      obtain ⟨⟨y0, y1, y2⟩, ⟨y3, y4, y5⟩, ⟨y6, y7, y8⟩, _, hbl⟩ := t7'
      go_wp2_with fail
      refine (cmp_any _ _ _ _ _ _ _ HFB.out HFC.out).mono ?_
      rintro e w8 ⟨rfl, hb8⟩
      have t8 := FourAt.on (w := w) (A := w1.heap.size) (B := w2.heap.size) (C := w3.heap.size) (X := w5.heap.size) (na := na) (da := da) (xa := xa) (nb := nb) (db := db) (xb := xb) (nc := nc) (dc := dc) (xc := xc) t7 hb8
      clear y0 y1 y2 y3 y4 y5 y6 y7 y8 hbl hb8
      clear t7
      by_cases hbc : Nm.cmp ⟨nb, db, xb⟩ ⟨nc, dc, xc⟩ ≤ 0
      · have hbc' : decide (Nm.cmp ⟨nb, db, xb⟩ ⟨nc, dc, xc⟩ ≤ 0) = true := by simpa using hbc
        have hac := HNX.out hab hbc
        have hac' : ¬ 0 < Nm.cmp ⟨na, da, xa⟩ ⟨nc, dc, xc⟩ := by omega
        have t8' := t8
        obtain ⟨⟨y0, y1, y2⟩, ⟨y3, y4, y5⟩, ⟨y6, y7, y8⟩, _, hbl⟩ := t8'
        go_wp2_with fail
        refine (cmp_any _ _ _ _ _ _ _ HFA.out HFC.out).mono ?_
        rintro e w9 ⟨rfl, hb9⟩
        have t9 := FourAt.on (w := w) (A := w1.heap.size) (B := w2.heap.size) (C := w3.heap.size) (X := w5.heap.size) (na := na) (da := da) (xa := xa) (nb := nb) (db := db) (xb := xb) (nc := nc) (dc := dc) (xc := xc) t8 hb9
        clear y0 y1 y2 y3 y4 y5 y6 y7 y8 hbl hb9
        clear t8
        have hbl := t9.2.2.2.2
        clear t9
        by_cases hk2 : k < 0
        · go_wp2
          go_ret
          exact ⟨rfl, hbl⟩
        · by_cases hk3 : 1000000000 < k
          · go_wp2
            go_ret
            exact ⟨rfl, hbl⟩
          · rcases hkc : Nm.count k with ⟨kn, kd, kx⟩
            rcases hjc : Nm.count (k + 1) with ⟨jn, jd, jx⟩
            have hcm := L.countNext k (by omega) (by omega)
            have hck := (L.countMay k (by omega) (by omega)).fair
            have hcj := (L.countMay (k + 1) (by omega) (by omega)).fair
            have hcw := L.countWhole k (by omega) (by omega)
            rw [hkc, hjc] at hcm
            rw [hkc] at hck hcw
            rw [hjc] at hcj
            simp only at hcw
            have HKC := Lib.hid hkc
            have HJC := Lib.hid hjc
            have HCM := Lib.hid hcm
            have HCK := Lib.hid hck
            have HCJ := Lib.hid hcj
            clear hkc hjc hcm hck hcj
            go_wp2_with fail
            refine (of_any _ _ (by omega) (by omega) (HT.out.keep hbl)).mono ?_
            rw [show (Nm.parse (Lib.itoa k)).1 = ⟨kn, kd, kx⟩ from HKC.out]
            rintro e v1 ⟨rfl, g1⟩
            have g1' := hbl.trans (g1.mono hbl.size)
            clear g1
            go_wp2_with fail
            refine (of_any _ _ (by omega) (by omega) (HT.out.keep g1')).mono ?_
            rw [show (Nm.parse (Lib.itoa (k + 1))).1 = ⟨jn, jd, jx⟩ from HJC.out]
            rintro e v2 ⟨rfl, g2⟩
            have g2' := g1'.trans (g2.mono g1'.size)
            clear g2 g1'
            go_wp2_with fail
            refine (cmp_any _ _ _ _ _ _ _ HCK.out HCJ.out).mono ?_
            rw [HCM.out]
            rintro e v3 ⟨rfl, g3⟩
            have g3' := g2'.trans (g3.mono g2'.size)
            clear g3 g2'
            go_wp2_with fail
            refine (of_any _ _ (by omega) (by omega) (HT.out.keep g3')).mono ?_
            rw [show (Nm.parse (Lib.itoa k)).1 = ⟨kn, kd, kx⟩ from HKC.out]
            rintro e v4 ⟨rfl, g4⟩
            have g4' := g3'.trans (g4.mono g3'.size)
            clear g4 g3'
            go_wp2_with fail
            refine (whole_any _ _ _ _).mono ?_
            rw [decide_eq_true hcw]
            rintro e v5 ⟨rfl, g5⟩
            have g5' := g4'.trans (g5.mono g4'.size)
            clear g5 g4'
            go_wp2
            go_ret
            exact ⟨rfl, g5'⟩
      · have hbc' : decide (Nm.cmp ⟨nb, db, xb⟩ ⟨nc, dc, xc⟩ ≤ 0) = false := by simpa using hbc
        have hbl := t8.2.2.2.2
        clear t8
        by_cases hk2 : k < 0
        · go_wp2
          go_ret
          exact ⟨rfl, hbl⟩
        · by_cases hk3 : 1000000000 < k
          · go_wp2
            go_ret
            exact ⟨rfl, hbl⟩
          · rcases hkc : Nm.count k with ⟨kn, kd, kx⟩
            rcases hjc : Nm.count (k + 1) with ⟨jn, jd, jx⟩
            have hcm := L.countNext k (by omega) (by omega)
            have hck := (L.countMay k (by omega) (by omega)).fair
            have hcj := (L.countMay (k + 1) (by omega) (by omega)).fair
            have hcw := L.countWhole k (by omega) (by omega)
            rw [hkc, hjc] at hcm
            rw [hkc] at hck hcw
            rw [hjc] at hcj
            simp only at hcw
            have HKC := Lib.hid hkc
            have HJC := Lib.hid hjc
            have HCM := Lib.hid hcm
            have HCK := Lib.hid hck
            have HCJ := Lib.hid hcj
            clear hkc hjc hcm hck hcj
            go_wp2_with fail
            refine (of_any _ _ (by omega) (by omega) (HT.out.keep hbl)).mono ?_
            rw [show (Nm.parse (Lib.itoa k)).1 = ⟨kn, kd, kx⟩ from HKC.out]
            rintro e v1 ⟨rfl, g1⟩
            have g1' := hbl.trans (g1.mono hbl.size)
            clear g1
            go_wp2_with fail
            refine (of_any _ _ (by omega) (by omega) (HT.out.keep g1')).mono ?_
            rw [show (Nm.parse (Lib.itoa (k + 1))).1 = ⟨jn, jd, jx⟩ from HJC.out]
            rintro e v2 ⟨rfl, g2⟩
            have g2' := g1'.trans (g2.mono g1'.size)
            clear g2 g1'
            go_wp2_with fail
            refine (cmp_any _ _ _ _ _ _ _ HCK.out HCJ.out).mono ?_
            rw [HCM.out]
            rintro e v3 ⟨rfl, g3⟩
            have g3' := g2'.trans (g3.mono g2'.size)
            clear g3 g2'
            go_wp2_with fail
            refine (of_any _ _ (by omega) (by omega) (HT.out.keep g3')).mono ?_
            rw [show (Nm.parse (Lib.itoa k)).1 = ⟨kn, kd, kx⟩ from HKC.out]
            rintro e v4 ⟨rfl, g4⟩
            have g4' := g3'.trans (g4.mono g3'.size)
            clear g4 g3'
            go_wp2_with fail
            refine (whole_any _ _ _ _).mono ?_
            rw [decide_eq_true hcw]
            rintro e v5 ⟨rfl, g5⟩
            have g5' := g4'.trans (g5.mono g4'.size)
            clear g5 g4'
            go_wp2
            go_ret
            exact ⟨rfl, g5'⟩
    · have hab' : decide (Nm.cmp ⟨na, da, xa⟩ ⟨nb, db, xb⟩ ≤ 0) = false := by simpa using hab
      have hbl := t7.2.2.2.2
      clear t7
      by_cases hk2 : k < 0
      · go_wp2
        go_ret
        exact ⟨rfl, hbl⟩
      · by_cases hk3 : 1000000000 < k
        · go_wp2
          go_ret
          exact ⟨rfl, hbl⟩
        · rcases hkc : Nm.count k with ⟨kn, kd, kx⟩
          rcases hjc : Nm.count (k + 1) with ⟨jn, jd, jx⟩
          have hcm := L.countNext k (by omega) (by omega)
          have hck := (L.countMay k (by omega) (by omega)).fair
          have hcj := (L.countMay (k + 1) (by omega) (by omega)).fair
          have hcw := L.countWhole k (by omega) (by omega)
          rw [hkc, hjc] at hcm
          rw [hkc] at hck hcw
          rw [hjc] at hcj
          simp only at hcw
          have HKC := Lib.hid hkc
          have HJC := Lib.hid hjc
          have HCM := Lib.hid hcm
          have HCK := Lib.hid hck
          have HCJ := Lib.hid hcj
          clear hkc hjc hcm hck hcj
          go_wp2_with fail
          refine (of_any _ _ (by omega) (by omega) (HT.out.keep hbl)).mono ?_
          rw [show (Nm.parse (Lib.itoa k)).1 = ⟨kn, kd, kx⟩ from HKC.out]
          rintro e v1 ⟨rfl, g1⟩
          have g1' := hbl.trans (g1.mono hbl.size)
          clear g1
          go_wp2_with fail
          refine (of_any _ _ (by omega) (by omega) (HT.out.keep g1')).mono ?_
          rw [show (Nm.parse (Lib.itoa (k + 1))).1 = ⟨jn, jd, jx⟩ from HJC.out]
          rintro e v2 ⟨rfl, g2⟩
          have g2' := g1'.trans (g2.mono g1'.size)
          clear g2 g1'
          go_wp2_with fail
          refine (cmp_any _ _ _ _ _ _ _ HCK.out HCJ.out).mono ?_
          rw [HCM.out]
          rintro e v3 ⟨rfl, g3⟩
          have g3' := g2'.trans (g3.mono g2'.size)
          clear g3 g2'
          go_wp2_with fail
          refine (of_any _ _ (by omega) (by omega) (HT.out.keep g3')).mono ?_
          rw [show (Nm.parse (Lib.itoa k)).1 = ⟨kn, kd, kx⟩ from HKC.out]
          rintro e v4 ⟨rfl, g4⟩
          have g4' := g3'.trans (g4.mono g3'.size)
          clear g4 g3'
          go_wp2_with fail
          refine (whole_any _ _ _ _).mono ?_
          rw [decide_eq_true hcw]
          rintro e v5 ⟨rfl, g5⟩
          have g5' := g4'.trans (g5.mono g4'.size)
          clear g5 g4'
          go_wp2
          go_ret
          exact ⟨rfl, g5'⟩

end Go.Proofs.YtfconmjgedaifaaDoor
