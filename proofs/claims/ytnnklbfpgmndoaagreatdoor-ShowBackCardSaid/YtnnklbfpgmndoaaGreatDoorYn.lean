/- The laws of layer 4 (parse): what Parse tells; up; ParseTells. -/
import Derived.Test.YtnnklbfpgmndoaaGreatDoorNh
import Derived.Test.YtnnklbfpgmndoaaGreatDoorMt
import Derived.Test.YtnnklbfpgmndoaaGreatDoorMn
import Derived.KernelRfl
namespace Go.Proofs.YtnnklbfpgmndoaaGreatDoor.Ps
open Js

theorem ex_obj : parse [123, 34, 98, 34, 58, 49, 44, 34, 97, 34, 58, 91, 93, 125] = .ok (mkO [([97], mkA []), ([98], mkD ⟨false, [49], 0⟩)]) [] := by
  kernel_rfl
theorem ex_bad : parse [91, 49, 44, 93] = .bad 1 1 := by
  kernel_rfl

end Go.Proofs.YtnnklbfpgmndoaaGreatDoor.Ps
namespace Go.Proofs.YtnnklbfpgmndoaaGreatDoor
open Go.RowKit Js

/-- An error as it stands in a slot, of number c at byte p: none, or a Spot's block. -/
def ErrIs (w : World) (ev : Value) (c p : Int) : Prop := (ev = .nilIface ∧ c = 0 ∧ p = 0) ∨ ∃ g, ev = spotV g ∧ SpotAt w g p c
theorem ErrIs.on {w w' : World} {ev : Value} {c p : Int} (h : ErrIs w ev c p) (hb : Below w.heap.size w w') : ErrIs w' ev c p := by
  rcases h with h | ⟨g, h1, h2, h3⟩
  · exact .inl h
  · have hl := World.block_lt_of_cell? w _ h2
    exact .inr ⟨g, h1, (hb.cell (p := ⟨g, 0, none⟩) hl).trans h2, (hb.cell (p := ⟨g, 1, none⟩) hl).trans h3⟩
theorem spot_of {w : World} {ev : Value} {c p : Int} (h : ErrIs w ev c p) :
    Calls Tryz.prog 9 #[ev] w fun e w' => e = .returned (.tuple #[.int .i64 c, .int .i64 p]) ∧ Below w.heap.size w w' := by
  rcases h with ⟨rfl, rfl, rfl⟩ | ⟨g, rfl, h2⟩
  · refine (spot_nil w).mono ?_
    rintro e w' ⟨rfl, rfl⟩
    exact ⟨rfl, .refl _ _⟩
  · exact spot_at g p c w h2

/-- What Parse tells, in the words that the laws' walks want. -/
def PzTold (s : ByteArray) (w : World) (e : Ending) (w' : World) : Prop :=
  ∃ (v : Vl) (x ev : Value) (c p : Int), e = .returned (.tuple #[x, ev]) ∧ v.In w'.cell? x ∧ Below w.heap.size w w' ∧ ErrIs w' ev c p ∧
    (match Ps.parse s.data.toList with
     | .ok v0 _ => v = v0 ∧ ev = .nilIface ∧ c = 0 ∧ p = 0
     | .bad c0 l => v = Ps.mkN ∧ (∃ g, ev = spotV g) ∧ c = c0 ∧ p = (s.size : Int) - l)
theorem pz_told (s : ByteArray) (hs : s.size ≤ 100000) (w : World) (hT : Tabs w) : Calls Tryz.prog 7 #[.string s] w (PzTold s w) := by
  refine (pparse_any s hs w hT).mono ?_
  rintro e w' ⟨hb, h⟩
  unfold PzTold
  cases hq : Ps.parse s.data.toList with
  | ok v u =>
    rw [hq] at h
    obtain ⟨x, rfl, hx⟩ := h
    exact ⟨v, x, .nilIface, 0, 0, rfl, In.keep (le_on _ _) _ _ hx, hb, .inl ⟨rfl, rfl, rfl⟩, rfl, rfl, rfl, rfl⟩
  | bad c l =>
    rw [hq] at h
    obtain ⟨g, p, hp, rfl, hsp⟩ := h
    exact ⟨Ps.mkN, _, spotV g, c, p, rfl, leaf_in _ 0 false Nm.Num.zero [], hb, .inr ⟨g, rfl, hsp⟩, rfl, ⟨g, rfl⟩, rfl, by omega⟩

set_option linter.unusedVariables false in
set_option linter.unusedSimpArgs false in
set_option maxRecDepth 100000 in
set_option maxHeartbeats 4000000 in
theorem up4_any (w : World) (hT : Tabs w) : Calls Tryz.prog 6 #[] w fun e w' => e = .returned (.bool true) ∧ Below w.heap.size w w' := by
  have HP1 := Lib.hid (pz_told ⟨#[123, 34, 98, 34, 58, 49, 44, 34, 97, 34, 58, 91, 93, 125]⟩ (by decide) w hT)
  have HT := Lib.hid hT
  clear hT
  go_enter Tryz.func6, Tryz.ntmps6
  go_wp2_with fail
  refine HP1.out.mono ?_
  rintro e w1 ⟨v, x, ev, c, p, rfl, hx, hb1, he, hr⟩
  rw [show (⟨#[123, 34, 98, 34, 58, 49, 44, 34, 97, 34, 58, 91, 93, 125]⟩ : ByteArray).data.toList = [123, 34, 98, 34, 58, 49, 44, 34, 97, 34, 58, 91, 93, 125] from rfl, Ps.ex_obj] at hr
  obtain ⟨rfl, rfl, rfl, rfl⟩ := hr
  obtain ⟨A, e1, B, d1, hxe, _, _, hd1, hd2, _, hm⟩ := In.form hx
  obtain ⟨g, o, y0, rfl, hy0, hk0, hc0⟩ := hm 0 _ rfl
  obtain ⟨g', o', y1, hgo, hy1, hk1, hc1⟩ := hm 1 _ rfl
  injection hgo with hgo
  injection hgo with hg' ho' _
  subst hg' ho'
  obtain rfl : x = .agg #[.int .i64 5, .bool false, .bool false, .string ⟨#[]⟩, .int .i64 0, .string ⟨#[]⟩, .slice A 0 e1, .slice (some ⟨g, o, none⟩) 2 d1] := hxe
  obtain ⟨A1, e2, B1, d2, rfl, _⟩ := In.form hy1
  have hn := hc1.eight.2.2.2.1
  have hkl := World.block_lt_of_cell? w1 _ hk0
  have hal := le_alloc w1 (.cells #[.int .i64 5, .bool false, .bool false, .string ⟨#[]⟩, .int .i64 0, .string ⟨#[]⟩, .slice A 0 e1, .slice (some ⟨g, o, none⟩) 2 d1] 28)
  have HK0 := Lib.hid (hal _ _ hk0)
  have HN1 := Lib.hid (hal _ _ hn)
  have HX1 := Lib.hid (Blk.new w1 28 #[.int .i64 5, .bool false, .bool false, .string ⟨#[]⟩, .int .i64 0, .string ⟨#[]⟩, .slice A 0 e1, .slice (some ⟨g, o, none⟩) 2 d1])
  have HB1 := Lib.hid (hb1.alloc hb1.size (.cells #[.int .i64 5, .bool false, .bool false, .string ⟨#[]⟩, .int .i64 0, .string ⟨#[]⟩, .slice A 0 e1, .slice (some ⟨g, o, none⟩) 2 d1] 28))
  have HP2 := Lib.hid (pz_told ⟨#[91, 49, 44, 93]⟩ (by decide) _ (HT.out.on HB1.out))
  clear hx hm hy0 hc0 hy1 hc1 hk1 hk0 hn he hb1 hal
  go_wp2_with fail
  refine HP2.out.mono ?_
  rintro e w2 ⟨v2, x2, ev2, c2, p2, rfl, hx2, hb2, he2, hr2⟩
  rw [show (⟨#[91, 49, 44, 93]⟩ : ByteArray).data.toList = [91, 49, 44, 93] from rfl, Ps.ex_bad] at hr2
  obtain ⟨rfl, ⟨gs, rfl⟩, rfl, rfl⟩ := hr2
  obtain ⟨k3, b3, n3, g3, x3, s3, A3, l3, p3, B3, m3, z3, rfl⟩ := In.cells hx2
  have hal := le_alloc w2 (.cells #[.int .i64 k3, .bool b3, .bool n3, .string ⟨g3.toArray⟩, .int .i64 x3, .string ⟨s3.toArray⟩, .slice A3 l3 p3, .slice B3 m3 z3] 28)
  have HK2 := Lib.hid (hal _ _ (le_below hb2 _ _ HK0.out))
  have HN2 := Lib.hid (hal _ _ (le_below hb2 _ _ HN1.out))
  have HX2 := Lib.hid ((HX1.out.on hb2).alloc (.cells #[.int .i64 k3, .bool b3, .bool n3, .string ⟨g3.toArray⟩, .int .i64 x3, .string ⟨s3.toArray⟩, .slice A3 l3 p3, .slice B3 m3 z3] 28))
  have HB2 := Lib.hid ((HB1.out.trans (hb2.mono HB1.out.size)).alloc (by have := HB1.out.size; have := hb2.size; omega) (.cells #[.int .i64 k3, .bool b3, .bool n3, .string ⟨g3.toArray⟩, .int .i64 x3, .string ⟨s3.toArray⟩, .slice A3 l3 p3, .slice B3 m3 z3] 28))
  have HSP := Lib.hid (spot_of (he2.on ((Below.refl w2.heap.size w2).alloc (Nat.le_refl _) (.cells #[.int .i64 k3, .bool b3, .bool n3, .string ⟨g3.toArray⟩, .int .i64 x3, .string ⟨s3.toArray⟩, .slice A3 l3 p3, .slice B3 m3 z3] 28))))
  clear hx2 he2 hb2 HK0 HN1 HX1 HB1 hal
  go_wp2_with fail
  refine HSP.out.mono ?_
  rintro e w3 ⟨rfl, hb3⟩
  have HB3 := Lib.hid (HB2.out.trans (hb3.mono HB2.out.size))
  have hk3 := le_below hb3 _ _ HK2.out
  have hn3 := le_below hb3 _ _ HN2.out
  obtain ⟨q0, q1, q2, q3, q4, q5, q6, q7⟩ := (HX2.out.on hb3).eight
  simp only [Nat.zero_mul, Nat.add_zero, Nat.one_mul] at hk3 hn3
  clear hb3 HK2 HN2 HX2 HB2
  rw [show (((⟨#[91, 49, 44, 93]⟩ : ByteArray).size : Nat) : Int) - ((1 : Nat) : Int) = 3 from by decide]
  change _ = some (Value.string ⟨#[97]⟩) at hk3
  change _ = some (Value.string ⟨#[49]⟩) at hn3
  go_wp2_with fail
  go_ret
  exact ⟨rfl, HB3.out⟩

set_option linter.unusedVariables false in
set_option linter.unusedSimpArgs false in
set_option maxRecDepth 100000 in
set_option maxHeartbeats 4000000 in
theorem parseTells_any (s : ByteArray) (w : World) (hT : Tabs w) (hs : s.size ≤ 1000000000000000000) :
    Calls Tryz.prog 3 #[.string s] w fun e w' => e = .returned (.bool true) ∧ Below w.heap.size w w' := by
  have HU := Lib.hid (up4_any w hT)
  have HT := Lib.hid hT
  clear hT
  by_cases hl : 25000 < s.size
  · have hd : decide ((25000 : Int) < (s.size : Int)) = true := by simp; omega
    go_enter Tryz.func3, Tryz.ntmps3
    go_wp2_with fail
    refine HU.out.mono ?_
    rintro e w0 ⟨rfl, hb0⟩
    have HB0 := Lib.hid hb0
    clear hb0
    go_wp2_with fail
    go_ret
    exact ⟨rfl, HB0.out⟩
  have hd : decide ((25000 : Int) < (s.size : Int)) = false := by simp; omega
  go_enter Tryz.func3, Tryz.ntmps3
  go_wp2_with fail
  refine HU.out.mono ?_
  rintro e w0 ⟨rfl, hb0⟩
  have HB0 := Lib.hid hb0
  have HP := Lib.hid (pz_told s (by omega) w0 (HT.out.on hb0))
  clear hb0 HU
  go_wp2_with fail
  refine HP.out.mono ?_
  rintro e w1 ⟨v, x, ev, c, p, rfl, hx, hb1, he, hr⟩
  obtain ⟨k1, b1, n1, g1, x1, s1, A1, l1, p1, B1, m1, z1, rfl⟩ := In.cells hx
  have HR := Lib.hid hr
  have HE := Lib.hid (he.on ((Below.refl w1.heap.size w1).alloc (Nat.le_refl _) (.cells #[.int .i64 k1, .bool b1, .bool n1, .string ⟨g1.toArray⟩, .int .i64 x1, .string ⟨s1.toArray⟩, .slice A1 l1 p1, .slice B1 m1 z1] 28)))
  have HN := Lib.hid (In.keep (le_alloc w1 (.cells #[.int .i64 k1, .bool b1, .bool n1, .string ⟨g1.toArray⟩, .int .i64 x1, .string ⟨s1.toArray⟩, .slice A1 l1 p1, .slice B1 m1 z1] 28)) _ _ hx)
  have HX := Lib.hid (Blk.new w1 28 #[.int .i64 k1, .bool b1, .bool n1, .string ⟨g1.toArray⟩, .int .i64 x1, .string ⟨s1.toArray⟩, .slice A1 l1 p1, .slice B1 m1 z1])
  have hb01 := HB0.out.trans (hb1.mono HB0.out.size)
  have HB1 := Lib.hid (hb01.alloc hb01.size (.cells #[.int .i64 k1, .bool b1, .bool n1, .string ⟨g1.toArray⟩, .int .i64 x1, .string ⟨s1.toArray⟩, .slice A1 l1 p1, .slice B1 m1 z1] 28))
  clear hx hb1 he hr hb01 HP HB0
  go_upto_region 5 with (fail)
  generalize w1.alloc (.cells #[.int .i64 k1, .bool b1, .bool n1, .string ⟨g1.toArray⟩, .int .i64 x1, .string ⟨s1.toArray⟩, .slice A1 l1 p1, .slice B1 m1 z1] 28) = w2 at *
  have HQ := Lib.hid (refParse_any s (by omega) w2)
  go_wp2_with fail
  refine HQ.out.mono ?_
  rintro e w3 ⟨v', x', c', p', rfl, hx', hb3, hr'⟩
  obtain ⟨k2, b2, n2, g2, x2, s2, A2, l2, p2, B2, m2, z2, rfl⟩ := In.cells hx'
  have hall := (le_below hb3).trans (le_alloc w3 (.cells #[.int .i64 k2, .bool b2, .bool n2, .string ⟨g2.toArray⟩, .int .i64 x2, .string ⟨s2.toArray⟩, .slice A2 l2 p2, .slice B2 m2 z2] 28))
  have HE3 := Lib.hid ((HE.out.on hb3).on ((Below.refl w3.heap.size w3).alloc (Nat.le_refl _) (.cells #[.int .i64 k2, .bool b2, .bool n2, .string ⟨g2.toArray⟩, .int .i64 x2, .string ⟨s2.toArray⟩, .slice A2 l2 p2, .slice B2 m2 z2] 28)))
  have HN3 := Lib.hid (In.keep hall _ _ HN.out)
  have HM3 := Lib.hid (In.keep ((le_on w3 _).trans (le_alloc w3 (.cells #[.int .i64 k2, .bool b2, .bool n2, .string ⟨g2.toArray⟩, .int .i64 x2, .string ⟨s2.toArray⟩, .slice A2 l2 p2, .slice B2 m2 z2] 28))) _ _ hx')
  have HX3 := Lib.hid ((HX.out.on hb3).alloc (.cells #[.int .i64 k2, .bool b2, .bool n2, .string ⟨g2.toArray⟩, .int .i64 x2, .string ⟨s2.toArray⟩, .slice A2 l2 p2, .slice B2 m2 z2] 28))
  have HY3 := Lib.hid (Blk.new w3 28 #[.int .i64 k2, .bool b2, .bool n2, .string ⟨g2.toArray⟩, .int .i64 x2, .string ⟨s2.toArray⟩, .slice A2 l2 p2, .slice B2 m2 z2])
  have hb13 := HB1.out.trans (hb3.mono HB1.out.size)
  have HB3 := Lib.hid (hb13.alloc hb13.size (.cells #[.int .i64 k2, .bool b2, .bool n2, .string ⟨g2.toArray⟩, .int .i64 x2, .string ⟨s2.toArray⟩, .slice A2 l2 p2, .slice B2 m2 z2] 28))
  have HV := Lib.hid (show v.same v' = true ∧ c = c' ∧ p = p' by
    have hr := HR.out
    cases hq : Ps.parse s.data.toList with
    | ok v0 u =>
      rw [hq] at hr hr'
      obtain ⟨rfl, _, rfl, rfl⟩ := hr
      obtain ⟨rfl, rfl, rfl⟩ := hr'
      exact ⟨same_refl _, rfl, rfl⟩
    | bad c0 l =>
      rw [hq] at hr hr'
      obtain ⟨rfl, _, rfl, rfl⟩ := hr
      obtain ⟨rfl, rfl, rfl⟩ := hr'
      exact ⟨same_refl _, rfl, rfl⟩)
  clear hx' hb3 hr' hall HE HN HX HB1 HR hb13 HQ
  go_upto_region 6 with (fail)
  generalize w3.alloc (.cells #[.int .i64 k2, .bool b2, .bool n2, .string ⟨g2.toArray⟩, .int .i64 x2, .string ⟨s2.toArray⟩, .slice A2 l2 p2, .slice B2 m2 z2] 28) = w4 at *
  have HSP := Lib.hid (spot_of HE3.out)
  go_wp2_with fail
  refine HSP.out.mono ?_
  rintro e w5 ⟨rfl, hb5⟩
  have HB5 := Lib.hid (HB3.out.trans (hb5.mono HB3.out.size))
  have HSA := Lib.hid (refSame_on (In.keep (le_below hb5) _ _ HN3.out) (In.keep (le_below hb5) _ _ HM3.out) HV.out.1)
  obtain ⟨a0, a1, a2, a3, a4, a5, a6, a7⟩ := (HX3.out.on hb5).eight
  obtain ⟨d0, d1, d2, d3, d4, d5, d6, d7⟩ := (HY3.out.on hb5).eight
  obtain ⟨_, rfl, rfl⟩ := HV.out
  clear hb5 HE3 HN3 HM3 HX3 HY3 HB3 HSP HV
  go_wp2_with fail
  refine (HSA.out _ (Below.refl _ _)).mono ?_
  rintro e w6 ⟨rfl, hb6⟩
  have HB6 := Lib.hid (HB5.out.trans (hb6.mono HB5.out.size))
  clear hb6 HB5 HSA a0 a1 a2 a3 a4 a5 a6 a7 d0 d1 d2 d3 d4 d5 d6 d7
  go_wp2_with fail
  go_ret
  exact ⟨by simp, HB6.out⟩

end Go.Proofs.YtnnklbfpgmndoaaGreatDoor

