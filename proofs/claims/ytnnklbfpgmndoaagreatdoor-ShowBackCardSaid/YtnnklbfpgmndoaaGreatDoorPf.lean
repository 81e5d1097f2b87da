/- The laws of layer 5 (show): what Value of the laws tells; ShowBack. -/
import Derived.Test.YtnnklbfpgmndoaaGreatDoorPe
import Derived.Test.YtnnklbfpgmndoaaGreatDoorYn
namespace Go.Proofs.YtnnklbfpgmndoaaGreatDoor
open Go.RowKit Js

/-- A value that may be, whose text is parsed. -/
def Shows (v : Vl) : Prop := v.may = true ∧ v.depth ≤ 32 ∧ v.shown.length ≤ 20000
theorem Shows.back {v : Vl} (h : Shows v) : Ps.parse v.shown = .ok v [] := Ps.parse_shown h.1 h.2.1 h.2.2
theorem Shows.inj {v v' : Vl} (h : Shows v) (h' : Shows v') (e : v.shown = v'.shown) : v = v' := by
  have h1 := h.back
  rw [e, h'.back] at h1
  injection h1 with h1 _
  exact h1.symm
def Told5 (w : World) (e : Ending) (w' : World) : Prop :=
  ∃ v x c, e = .returned (.tuple #[x, .int .i64 c]) ∧ v.In w'.cell? x ∧ Below w.heap.size w w' ∧ (c = 0 ∨ (c = 1 ∧ Shows v))
theorem value_told5 (s : ByteArray) (hs : s.size ≤ 1000000000000000000) (w : World) : Calls Tryz.prog 13 #[.string s] w (Told5 w) := by
  refine (value_law s hs w).mono ?_
  rintro e w' ⟨hb, ⟨x, rfl, hin⟩ | ⟨v, u, x, hsz, hp, rfl, hin⟩⟩
  · exact ⟨_, x, 0, rfl, In.keep (le_on _ _) _ _ hin, hb, .inl rfl⟩
  · have hl : s.data.toList.length ≤ 2000 := by rw [← Lib.size_eq]; exact hsz
    have hf := fine_of hl hp
    have hr := Ps.parse_room hp
    exact ⟨v, x, 1, rfl, In.keep (le_on _ _) _ _ hin, hb, .inr ⟨rfl, hf.1, hf.2.2.1, by omega⟩⟩
theorem pz_shown {v : Vl} (h : Shows v) {w : World} (hT : Tabs w) : Calls Tryz.prog 7 #[.string ⟨v.shown.toArray⟩] w fun e w' => ∃ x, e = .returned (.tuple #[x, .nilIface]) ∧ v.In w'.cell? x ∧ Below w.heap.size w w' := by
  refine (pz_told ⟨v.shown.toArray⟩ (by rw [Lib.size_mk]; have := h.2.2; omega) w hT).mono ?_
  rintro e w' ⟨v', x, ev, c, p, rfl, hx, hb, _, hr⟩
  rw [show (⟨v.shown.toArray⟩ : ByteArray).data.toList = v.shown from rfl, h.back] at hr
  obtain ⟨rfl, rfl, _, _⟩ := hr
  exact ⟨x, rfl, hx, hb⟩

set_option linter.unusedVariables false in
set_option linter.unusedSimpArgs false in
set_option maxRecDepth 100000 in
set_option maxHeartbeats 1000000 in
theorem showBack_any (s t : ByteArray) (w : World) (hT : Tab w) (hU : Tabs w) (hs : s.size ≤ 1000000000000000000) (ht : t.size ≤ 1000000000000000000) :
    Calls Tryz.prog 5 #[.string s, .string t] w fun e w' => e = .returned (.bool true) ∧ Below w.heap.size w w' := by
  have HU := Lib.hid (up5_any w hT)
  have HT := Lib.hid hT
  have HTS := Lib.hid hU
  clear hT hU
  go_enter Tryz.func5, Tryz.ntmps5
  go_wp2_with fail
  refine HU.out.mono ?_
  rintro e w0 ⟨rfl, hb0⟩
  have HB0 := Lib.hid hb0
  have HP := Lib.hid (value_told5 s hs w0)
  clear hb0 HU
  go_wp2_with fail
  refine HP.out.mono ?_
  rintro e w1 ⟨v, x, c, rfl, hx, hb1, hc1⟩
  obtain ⟨k1, b1, n1, g1, x1, s1, A1, l1, p1, B1, m1, z1, rfl⟩ := In.cells hx
  have HC1 := Lib.hid hc1
  have hb01 := HB0.out.trans (hb1.mono HB0.out.size)
  have HB1 := Lib.hid (hb01.alloc hb01.size (.cells #[.int .i64 k1, .bool b1, .bool n1, .string ⟨g1.toArray⟩, .int .i64 x1, .string ⟨s1.toArray⟩, .slice A1 l1 p1, .slice B1 m1 z1] 28))
  have HN := Lib.hid (In.keep (le_alloc w1 (.cells #[.int .i64 k1, .bool b1, .bool n1, .string ⟨g1.toArray⟩, .int .i64 x1, .string ⟨s1.toArray⟩, .slice A1 l1 p1, .slice B1 m1 z1] 28)) _ _ hx)
  have HX := Lib.hid (Blk.new w1 28 #[.int .i64 k1, .bool b1, .bool n1, .string ⟨g1.toArray⟩, .int .i64 x1, .string ⟨s1.toArray⟩, .slice A1 l1 p1, .slice B1 m1 z1])
  clear hx hb1 hc1 hb01 HP HB0
  go_upto_region 3 with (fail)
  generalize w1.alloc (.cells #[.int .i64 k1, .bool b1, .bool n1, .string ⟨g1.toArray⟩, .int .i64 x1, .string ⟨s1.toArray⟩, .slice A1 l1 p1, .slice B1 m1 z1] 28) = w2 at *
  have HQ := Lib.hid (value_told5 t ht w2)
  go_wp2_with fail
  refine HQ.out.mono ?_
  rintro e w3 ⟨v', x', c', rfl, hx', hb3, hc3⟩
  obtain ⟨k2, b2, n2, g2, x2, s2, A2, l2, p2, B2, m2, z2, rfl⟩ := In.cells hx'
  have hall := (le_below hb3).trans (le_alloc w3 (.cells #[.int .i64 k2, .bool b2, .bool n2, .string ⟨g2.toArray⟩, .int .i64 x2, .string ⟨s2.toArray⟩, .slice A2 l2 p2, .slice B2 m2 z2] 28))
  have HN3 := Lib.hid (In.keep hall _ _ HN.out)
  have HM3 := Lib.hid (In.keep (le_alloc w3 (.cells #[.int .i64 k2, .bool b2, .bool n2, .string ⟨g2.toArray⟩, .int .i64 x2, .string ⟨s2.toArray⟩, .slice A2 l2 p2, .slice B2 m2 z2] 28)) _ _ hx')
  have HX3 := Lib.hid ((HX.out.on hb3).alloc (.cells #[.int .i64 k2, .bool b2, .bool n2, .string ⟨g2.toArray⟩, .int .i64 x2, .string ⟨s2.toArray⟩, .slice A2 l2 p2, .slice B2 m2 z2] 28))
  have HY3 := Lib.hid (Blk.new w3 28 #[.int .i64 k2, .bool b2, .bool n2, .string ⟨g2.toArray⟩, .int .i64 x2, .string ⟨s2.toArray⟩, .slice A2 l2 p2, .slice B2 m2 z2])
  have hb13 := HB1.out.trans (hb3.mono HB1.out.size)
  have HB3 := Lib.hid (hb13.alloc hb13.size (.cells #[.int .i64 k2, .bool b2, .bool n2, .string ⟨g2.toArray⟩, .int .i64 x2, .string ⟨s2.toArray⟩, .slice A2 l2 p2, .slice B2 m2 z2] 28))
  have HC3 := Lib.hid hc3
  clear hx' hb3 hc3 hall hb13 HN HX HB1 HQ
  go_upto_region 4 with (fail)
  generalize w3.alloc (.cells #[.int .i64 k2, .bool b2, .bool n2, .string ⟨g2.toArray⟩, .int .i64 x2, .string ⟨s2.toArray⟩, .slice A2 l2 p2, .slice B2 m2 z2] 28) = w4 at *
  rcases HC1.out with rfl | ⟨rfl, hv⟩
  · clear HC1 HC3
    go_wp2_with fail
    go_ret
    exact ⟨rfl, HB3.out⟩
  rcases HC3.out with rfl | ⟨rfl, hv'⟩
  · clear HC1 HC3
    go_wp2_with fail
    go_ret
    exact ⟨rfl, HB3.out⟩
  have HV := Lib.hid hv
  have HV' := Lib.hid hv'
  have HT4 := Lib.hid (HT.out.keep HB3.out)
  have HU4 := Lib.hid (HTS.out.on HB3.out)
  obtain ⟨a0, a1, a2, a3, a4, a5, a6, a7⟩ := HX3.out.eight
  have HS1 := Lib.hid (show_on HT4.out hv.1 (by have := hv.2.2; omega) HN3.out rfl _ (Below.refl _ _))
  have HSH := Lib.hid (show ∀ w', Below w4.heap.size w4 w' → Calls Tryz.prog 14 #[_] w' fun e w'' => e = .returned (.string ⟨v'.shown.toArray⟩) ∧ Below w'.heap.size w' w'' from show_on HT4.out hv'.1 (by have := hv'.2.2; omega) HM3.out rfl)
  have HPZ := Lib.hid (fun w (h : Tabs w) => pz_shown hv h)
  clear hv hv' HC1 HC3
  go_wp2_with fail
  refine HS1.out.mono ?_
  rintro e w5 ⟨rfl, hb5⟩
  have HB5 := Lib.hid hb5
  have HX5 := Lib.hid (HX3.out.on hb5)
  have HY5 := Lib.hid (HY3.out.on hb5)
  have HP5 := Lib.hid (HPZ.out w5 (HU4.out.on hb5))
  clear hb5 a0 a1 a2 a3 a4 a5 a6 a7 HX3 HY3 HS1
  go_upto_region 7 with (fail)
  go_wp2_with fail
  refine HP5.out.mono ?_
  rintro e w6 ⟨x5, rfl, hx5, hb6⟩
  obtain ⟨k3, b3, n3, g3, x3, s3, A3, l3, p3, B3, m3, z3, rfl⟩ := In.cells hx5
  have HB6 := Lib.hid ((HB5.out.trans (hb6.mono HB5.out.size)).alloc (by have := HB5.out.size; have := hb6.size; omega) (.cells #[.int .i64 k3, .bool b3, .bool n3, .string ⟨g3.toArray⟩, .int .i64 x3, .string ⟨s3.toArray⟩, .slice A3 l3 p3, .slice B3 m3 z3] 28))
  have HX6 := Lib.hid ((HX5.out.on hb6).alloc (.cells #[.int .i64 k3, .bool b3, .bool n3, .string ⟨g3.toArray⟩, .int .i64 x3, .string ⟨s3.toArray⟩, .slice A3 l3 p3, .slice B3 m3 z3] 28))
  have HY6 := Lib.hid ((HY5.out.on hb6).alloc (.cells #[.int .i64 k3, .bool b3, .bool n3, .string ⟨g3.toArray⟩, .int .i64 x3, .string ⟨s3.toArray⟩, .slice A3 l3 p3, .slice B3 m3 z3] 28))
  have HZ6 := Lib.hid (Blk.new w6 28 #[.int .i64 k3, .bool b3, .bool n3, .string ⟨g3.toArray⟩, .int .i64 x3, .string ⟨s3.toArray⟩, .slice A3 l3 p3, .slice B3 m3 z3])
  have HO6 := Lib.hid (In.keep (le_alloc w6 (.cells #[.int .i64 k3, .bool b3, .bool n3, .string ⟨g3.toArray⟩, .int .i64 x3, .string ⟨s3.toArray⟩, .slice A3 l3 p3, .slice B3 m3 z3] 28)) _ _ hx5)
  clear hx5 hb6 HB5 HX5 HY5 HP5
  go_upto_region 8 with (fail)
  generalize w6.alloc (.cells #[.int .i64 k3, .bool b3, .bool n3, .string ⟨g3.toArray⟩, .int .i64 x3, .string ⟨s3.toArray⟩, .slice A3 l3 p3, .slice B3 m3 z3] 28) = w7 at *
  have HSA := Lib.hid (refSame_on (q := true) HO6.out (In.keep (le_below HB6.out) _ _ HN3.out) (same_refl v))
  obtain ⟨a0, a1, a2, a3, a4, a5, a6, a7⟩ := HX6.out.eight
  obtain ⟨d0, d1, d2, d3, d4, d5, d6, d7⟩ := HZ6.out.eight
  go_wp2_with fail
  refine (HSA.out _ (Below.refl _ _)).mono ?_
  rintro e w8 ⟨rfl, hb8⟩
  have HB8 := Lib.hid hb8
  clear a0 a1 a2 a3 a4 a5 a6 a7 d0 d1 d2 d3 d4 d5 d6 d7 HSA
  obtain ⟨a0, a1, a2, a3, a4, a5, a6, a7⟩ := (HX6.out.on hb8).eight
  obtain ⟨d0, d1, d2, d3, d4, d5, d6, d7⟩ := (HY6.out.on hb8).eight
  have hb48 := HB6.out.trans (hb8.mono HB6.out.size)
  have HSB := Lib.hid (refSame_on (In.keep (le_below hb48) _ _ HN3.out) (In.keep (le_below hb48) _ _ HM3.out) (q := v.same v') rfl _ (Below.refl _ _))
  clear hb8 hb48
  go_upto_region 9 with (fail)
  go_wp2_with fail
  refine HSB.out.mono ?_
  rintro e w9 ⟨rfl, hb9⟩
  clear a0 a1 a2 a3 a4 a5 a6 a7 d0 d1 d2 d3 d4 d5 d6 d7 HSB
  obtain ⟨a0, a1, a2, a3, a4, a5, a6, a7⟩ := (HZ6.out.on (HB8.out.trans (hb9.mono HB8.out.size))).eight
  have HY9 := Lib.hid (HY6.out.on (HB8.out.trans (hb9.mono HB8.out.size)))
  have HB9 := Lib.hid (HB6.out.trans ((HB8.out.trans (hb9.mono HB8.out.size)).mono HB6.out.size))
  have HS9 := Lib.hid (show_on (HT4.out.keep HB9.out) HV.out.1 (by have := HV.out.2.2; omega) (In.keep (le_below (HB8.out.trans (hb9.mono HB8.out.size))) _ _ HO6.out) rfl _ (Below.refl _ _))
  clear hb9
  go_upto_region 10 with (fail)
  go_wp2_with fail
  refine HS9.out.mono ?_
  rintro e wa ⟨rfl, hba⟩
  have HBA := Lib.hid (HB9.out.trans (hba.mono HB9.out.size))
  clear a0 a1 a2 a3 a4 a5 a6 a7 HS9
  obtain ⟨a0, a1, a2, a3, a4, a5, a6, a7⟩ := (HY9.out.on hba).eight
  have HEQ := Lib.hid (show ((v.shown == v'.shown) == v.same v') = true by
    by_cases he : v = v'
    · subst he; simp [same_refl]
    · have h1 : v.same v' = false := by
        cases hq : v.same v' with
        | false => rfl
        | true => exact absurd ((same_iff v v').1 hq) he
      have h2 : (v.shown == v'.shown) = false := by
        rw [beq_eq_false_iff_ne]
        exact fun e => he (HV.out.inj HV'.out e)
      rw [h1, h2]; rfl)
  have HSC := Lib.hid (HSH.out _ HBA.out)
  generalize v.same v' = q at *
  generalize v.shown = ta at *
  generalize v'.shown = tb at *
  clear hba
  go_wp2_with fail
  refine HSC.out.mono ?_
  rintro e wb ⟨rfl, hbb⟩
  have HBB := Lib.hid (HBA.out.trans (hbb.mono HBA.out.size))
  clear hbb
  go_wp2_with fail
  go_ret
  exact ⟨by simpa using HEQ.out, HB3.out.trans (HBB.out.mono HB3.out.size)⟩

end Go.Proofs.YtnnklbfpgmndoaaGreatDoor

