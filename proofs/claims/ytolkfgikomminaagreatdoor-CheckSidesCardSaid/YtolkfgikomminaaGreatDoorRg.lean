/- The document's Same. -/
import Derived.Test.YtolkfgikomminaaGreatDoorMe
import Derived.Deep.RegionWith
import Derived.StillTailTactics
import Derived.Deep.Cut
import Derived.Deep.CutRange
namespace Go.Proofs.YtolkfgikomminaaGreatDoor
open Go.RowKit Js

def SamingL (W : World) (l l' : List Vl) (i : Value) (wr : World) : Prop :=
 ∃ j : Nat, j ≤ l.length ∧ i = .int .i64 j ∧ sameL l l' = sameL (l.drop j) (l'.drop j) ∧ Below W.heap.size W wr
def SamingM (W : World) (l l' : List Js.Mem) (i : Value) (wr : World) : Prop :=
 ∃ j : Nat, j ≤ l.length ∧ i = .int .i64 j ∧ sameM l l' = sameM (l.drop j) (l'.drop j) ∧ Below W.heap.size W wr

theorem sameP_eq (p p' : Js.Mem) : sameP p p' = (decide (p.1 = p'.1) && p.2.same p'.2) := by
 obtain ⟨a, b⟩ := p
 obtain ⟨c, d⟩ := p'
 simp [sameP]

set_option linter.unusedVariables false in
set_option linter.unusedSimpArgs false in
set_option maxRecDepth 100000 in
set_option maxHeartbeats 4000000 in
theorem refSame_any (v : Vl) : ∀ (v' : Vl) (x x' : Value) (w : World), v.In w.cell? x → v'.In w.cell? x' →
  Calls Tryz.prog 34 #[x, x'] w fun e w' => e = .returned (.bool (v.same v')) ∧ Below w.heap.size w w' := by
 induction v using Vl.ind with
 | h k b n s l m hl hm =>
 rintro ⟨k', b', n', s', l', m'⟩ x x' w hx hx'
 obtain ⟨A, e, B, d, rfl, q1, q2, q3, q4, q5, q6⟩ := In.form hx
 obtain ⟨A', e', B', d', rfl, q1', q2', q3', q4', q5', q6'⟩ := In.form hx'
 obtain ⟨neg, dg, ex⟩ := n
 obtain ⟨neg', dg', ex'⟩ := n'
 unfold maxLen at q2 q4 q2' q4'
 have HL := Lib.hid hl
 have HM := Lib.hid hm
 have H5 := Lib.hid (show SlL w.cell? A l from q5)
 have H6 := Lib.hid (show SlM w.cell? B m from q6)
 have H5' := Lib.hid (show SlL w.cell? A' l' from q5')
 have H6' := Lib.hid (show SlM w.cell? B' m' from q6')
 have hB0 := ((Below.refl w.heap.size w).alloc (Nat.le_refl _) (.cells #[.int .i64 k, .bool b, .bool neg, .string ⟨dg.toArray⟩, .int .i64 ex, .string ⟨s.toArray⟩, .slice A l.length e, .slice B m.length d] 31)).alloc (by simp) (.cells #[.int .i64 k', .bool b', .bool neg', .string ⟨dg'.toArray⟩, .int .i64 ex', .string ⟨s'.toArray⟩, .slice A' l'.length e', .slice B' m'.length d'] 31)
 have hX := (Blk.new w 31 #[.int .i64 k, .bool b, .bool neg, .string ⟨dg.toArray⟩, .int .i64 ex, .string ⟨s.toArray⟩, .slice A l.length e, .slice B m.length d]).alloc (.cells #[.int .i64 k', .bool b', .bool neg', .string ⟨dg'.toArray⟩, .int .i64 ex', .string ⟨s'.toArray⟩, .slice A' l'.length e', .slice B' m'.length d'] 31)
 have hX' := Blk.new2 w (.cells #[.int .i64 k, .bool b, .bool neg, .string ⟨dg.toArray⟩, .int .i64 ex, .string ⟨s.toArray⟩, .slice A l.length e, .slice B m.length d] 31) 31 #[.int .i64 k', .bool b', .bool neg', .string ⟨dg'.toArray⟩, .int .i64 ex', .string ⟨s'.toArray⟩, .slice A' l'.length e', .slice B' m'.length d']
 clear hl hm hx hx' q5 q6 q5' q6'
 simp only
 by_cases hD : k = k' ∧ b = b' ∧ neg = neg' ∧ dg = dg' ∧ ex = ex' ∧ s = s' ∧ l.length = l'.length ∧ m.length = m'.length
 case neg =>
  have HQ := Lib.hid (show (Vl.mk k b ⟨neg, dg, ex⟩ s l m).same (Vl.mk k' b' ⟨neg', dg', ex'⟩ s' l' m') = false by
   rw [Bool.eq_false_iff]
   intro h
   rw [same_iff] at h
   injection h with e1 e2 e3 e4 e5 e6
   injection e3 with e7 e8 e9
   exact hD ⟨e1, e2, e7, e8, e9, e4, by rw [e5], by rw [e6]⟩)
  have HD := Lib.hid hD
  have HB0 := Lib.hid hB0
  clear HL HM H5 H6 H5' H6' hX hX' hB0 hD
  go_enter Tryz.func34, Tryz.ntmps34
  go_wp2_with fail
  rotate_left 1
  ·exfalso
   have hz : ((m.length : Int) != (m'.length : Int)) = false := by assumption
   exact HD.out ⟨by assumption, by assumption, by assumption, by assumption, by assumption, by assumption, by omega, Int.ofNat_inj.1 (by simpa using hz)⟩
  all_goals
   clear HD
   go_ret
   refine ⟨?_, ((Below.refl _ _).alloc (Nat.le_refl _) _).alloc (by simp) _⟩
   rw [HQ.out]
   rfl
 obtain ⟨rfl, rfl, rfl, rfl, rfl, rfl, hll, hmm⟩ := hD
 have HLL := Lib.hid hll
 have HMM := Lib.hid hmm
 have HQ := Lib.hid (show (Vl.mk k b ⟨neg, dg, ex⟩ s l m).same (Vl.mk k b ⟨neg, dg, ex⟩ s l' m') = (sameL l l' && sameM m m') by simp [Vl.same])
 have HB0 := Lib.hid hB0
 have HX := Lib.hid hX
 have HX' := Lib.hid hX'
 have t1 : ((l.length : Int) != (l'.length : Int)) = false := by simp [hll]
 have t2 : ((m.length : Int) != (m'.length : Int)) = false := by simp [hmm]
 clear hll hmm hB0 hX hX'
 go_enter Tryz.func34, Tryz.ntmps34
 go_upto_region 4 with (fail)
 generalize (w.alloc (.cells #[.int .i64 k, .bool b, .bool neg, .string ⟨dg.toArray⟩, .int .i64 ex, .string ⟨s.toArray⟩, .slice A l.length e, .slice B m.length d] 31)).alloc (.cells #[.int .i64 k, .bool b, .bool neg, .string ⟨dg.toArray⟩, .int .i64 ex, .string ⟨s.toArray⟩, .slice A' l'.length e', .slice B' m'.length d'] 31) = W at *
 go_loopw [5] (SamingL W l l') (fun i _ => l.length - (intOf i).toNat)
 case atStart => exact ⟨0, by omega, rfl, rfl, Below.refl _ _⟩
 case round =>
  obtain ⟨j, hj, rfl, hsm, hW⟩ := hrel
  have HSM := Lib.hid hsm
  clear hsm
  obtain ⟨c0, c1, c2, c3, c4, c5, c6, c7⟩ := (HX.out.on hW).eight
  obtain ⟨d0, d1, d2, d3, d4, d5, d6, d7⟩ := (HX'.out.on hW).eight
  by_cases hlt : j < l.length
  ·have hlt' : j < l'.length := by have := HLL.out; omega
   have hle : Cl.le w.cell? wr.cell? := (le_below HB0.out).trans (le_below hW)
   obtain ⟨g, o, y, rfl, hy, hc⟩ := H5.out j _ (List.getElem?_eq_getElem hlt)
   obtain ⟨g', o', y', rfl, hy', hc'⟩ := H5'.out j _ (List.getElem?_eq_getElem hlt')
   obtain ⟨k1, b1, n1, g1, x1, s1, A1, l1, p1, B1, m1, d1, rfl⟩ := In.cells hy
   obtain ⟨k2, b2, n2, g2, x2, s2, A2, l2, p2, B2, m2, d2, rfl⟩ := In.cells hy'
   obtain ⟨e0, e1, e2, e3, e4, e5, e6, e7⟩ := (hc.keep hle).eight
   obtain ⟨f0, f1, f2, f3, f4, f5, f6, f7⟩ := (hc'.keep hle).eight
   have HY := Lib.hid (In.keep hle _ _ hy)
   have HY' := Lib.hid (In.keep hle _ _ hy')
   have HSTEP := Lib.hid (show sameL (l.drop j) (l'.drop j) = (l[j].same l'[j] && sameL (l.drop (j + 1)) (l'.drop (j + 1))) by
     rw [List.drop_eq_getElem_cons hlt, List.drop_eq_getElem_cons hlt']; simp only [sameL])
   have HIH := Lib.hid (HL.out l[j] (List.getElem_mem _) l'[j])
   clear hc hc' hy hy' hle
   generalize l[j].same l'[j] = q at HSTEP HIH
   go_wp2_with fail
   go_still_tail 10, (by kernel_rfl)
   go_wp2_with fail
   refine (HIH.out _ _ wr.drew HY.out HY'.out).mono ?_
   rintro e' w2 ⟨rfl, hb2⟩
   have hb : Below W.heap.size W w2 := hW.drew.trans (hb2.mono hW.size)
   cases q with
   | true =>
    go_wp2_with fail
    go_roundw
    case rel => exact ⟨j + 1, by omega, by go_num, by rw [HSM.out, HSTEP.out]; rfl, hb⟩
    case measure => simp [intOf]; omega
   | false =>
    go_wp2_with fail
    go_ret
    exact ⟨by rw [HQ.out, HSM.out, HSTEP.out]; rfl, HB0.out.trans (hb.mono HB0.out.size)⟩
  ·obtain rfl : j = l.length := by omega
   have HE := Lib.hid (show sameL l l' = true by
    rw [HSM.out, List.drop_length, HLL.out, List.drop_length]; simp only [sameL])
   go_wp2_with fail
   have HQ2 := Lib.hid (show (Vl.mk k b ⟨neg, dg, ex⟩ s l m).same (Vl.mk k b ⟨neg, dg, ex⟩ s l' m') = sameM m m' by rw [HQ.out, HE.out]; rfl)
   clear HQ HE HSM HLL
   go_loopw [7] (SamingM W m m') (fun i _ => m.length - (intOf i).toNat)
   case atStart => exact ⟨0, by omega, rfl, rfl, hW⟩
   case round =>
    clear hW c0 c1 c2 c3 c4 c5 c6 c7 d0 d1 d2 d3 d4 d5 d6 d7
    obtain ⟨j, hj, rfl, hsm, hW⟩ := hrel
    have HSM := Lib.hid hsm
    clear hsm
    obtain ⟨c0, c1, c2, c3, c4, c5, c6, c7⟩ := (HX.out.on hW).eight
    obtain ⟨d0, d1, d2, d3, d4, d5, d6, d7⟩ := (HX'.out.on hW).eight
    by_cases hlt : j < m.length
    ·have hlt' : j < m'.length := by have := HMM.out; omega
     have hle : Cl.le w.cell? wr.cell? := (le_below HB0.out).trans (le_below hW)
     obtain ⟨g, o, y, rfl, hy, hk, hc⟩ := H6.out j _ (List.getElem?_eq_getElem hlt)
     obtain ⟨g', o', y', rfl, hy', hk', hc'⟩ := H6'.out j _ (List.getElem?_eq_getElem hlt')
     obtain ⟨k1, b1, n1, g1, x1, s1, A1, l1, p1, B1, m1, z1, rfl⟩ := In.cells hy
     obtain ⟨k2, b2, n2, g2, x2, s2, A2, l2, p2, B2, m2, z2, rfl⟩ := In.cells hy'
     obtain ⟨e0, e1, e2, e3, e4, e5, e6, e7⟩ := (hc.keep hle).eight
     obtain ⟨f0, f1, f2, f3, f4, f5, f6, f7⟩ := (hc'.keep hle).eight
     have ek := hle _ _ hk
     have fk := hle _ _ hk'
     have HY := Lib.hid (In.keep hle _ _ hy)
     have HY' := Lib.hid (In.keep hle _ _ hy')
     have HSTEP := Lib.hid (show sameM (m.drop j) (m'.drop j) = (sameP m[j] m'[j] && sameM (m.drop (j + 1)) (m'.drop (j + 1))) by
      rw [List.drop_eq_getElem_cons hlt, List.drop_eq_getElem_cons hlt']; simp only [sameM])
     have HP := Lib.hid (show sameP m[j] m'[j] = (decide (m[j].1 = m'[j].1) && m[j].2.same m'[j].2) from sameP_eq _ _)
     have HIH := Lib.hid (HM.out m[j] (List.getElem_mem _) m'[j].2)
     clear hc hc' hy hy' hk hk' hle
     generalize m[j].2.same m'[j].2 = q at HP HIH
     generalize sameP m[j] m'[j] = qp at HP HSTEP
     generalize m[j].1 = key at *
     generalize m'[j].1 = key' at *
     go_wp2_with fail
     go_still_tail 12, (by kernel_rfl)
     go_wp2_with fail
     refine (HIH.out _ _ wr.drew HY.out HY'.out).mono ?_
     rintro e' w2 ⟨rfl, hb2⟩
     have hb : Below W.heap.size W w2 := hW.drew.trans (hb2.mono hW.size)
     have HB2 := Lib.hid hb2
     obtain ⟨c0, c1, c2, c3, c4, c5, c6, c7⟩ := (HX.out.on hb).eight
     obtain ⟨d0, d1, d2, d3, d4, d5, d6, d7⟩ := (HX'.out.on hb).eight
     have ek2 := le_below (w := wr.drew) hb2 _ _ ek
     have fk2 := le_below (w := wr.drew) hb2 _ _ fk
     clear hb2 e0 e1 e2 e3 e4 e5 e6 e7 f0 f1 f2 f3 f4 f5 f6 f7 ek fk
     cases q with
     | true =>
      by_cases hkk : key = key'
      ·have HT := Lib.hid (show qp = true by rw [HP.out, hkk]; simp)
       subst hkk
       go_wp2_with fail
       go_quiet (fail)
       go_wp2_with fail
       go_roundw
       case rel => exact ⟨j + 1, by omega, by go_num, by rw [HSM.out, HSTEP.out, HT.out]; rfl, below_drewN hb _⟩
       case measure => simp [intOf]; omega
      ·have HT := Lib.hid (show qp = false by rw [HP.out]; simp [hkk])
       have tk : (key != key') = true := by simpa using hkk
       have tk' : (key == key') = false := by simpa using hkk
       clear hkk
       go_wp2_with fail
       go_quiet (fail)
       go_wp2_with fail
       go_ret
       exact ⟨by rw [HQ2.out, HSM.out, HSTEP.out, HT.out]; rfl, HB0.out.trans ((below_drewN hb _).mono HB0.out.size)⟩
     | false =>
      have HT := Lib.hid (show qp = false by rw [HP.out]; simp)
      go_wp2_with fail
      go_quiet (fail)
      go_wp2_with fail
      go_ret
      exact ⟨by rw [HQ2.out, HSM.out, HSTEP.out, HT.out]; rfl, HB0.out.trans ((below_drewN hb _).mono HB0.out.size)⟩
    ·obtain rfl : j = m.length := by omega
     have HE := Lib.hid (show sameM m m' = true by
      rw [HSM.out, List.drop_length, HMM.out, List.drop_length]; simp only [sameM])
     go_wp2_with fail
     go_ret
     exact ⟨by rw [HQ2.out, HE.out]; rfl, HB0.out.trans (hW.mono HB0.out.size)⟩

end Go.Proofs.YtolkfgikomminaaGreatDoor

