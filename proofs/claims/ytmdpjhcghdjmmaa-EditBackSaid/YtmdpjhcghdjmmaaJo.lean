/- The laws of layer 7 (edit): EditTells. -/
import Derived.Test.YtmdpjhcghdjmmaaJn
import Derived.Test.YtmdpjhcghdjmmaaMt
import Derived.Test.YtmdpjhcghdjmmaaJg
namespace Go.Proofs.Ytmdpjhcghdjmmaa
open Go.RowKit Pt Js

theorem names_of {t : List UInt8} {l : List (List UInt8)} (h : parse t = .ok l) (ht : t.length ≤ 500) : l.length ≤ 500 ∧ ∀ n ∈ l, n.length ≤ 500 := by
  obtain ⟨h1, h2⟩ := parse_back h
  refine ⟨by omega, fun n hn => ?_⟩
  obtain ⟨j, hj, rfl⟩ := List.getElem_of_mem hn
  have h3 := text_take_len l j hj
  have h4 := name_ge l[j]
  rw [h1] at h3
  omega

set_option linter.unusedVariables false in
set_option linter.unusedSimpArgs false in
set_option maxRecDepth 100000 in
set_option maxHeartbeats 4000000 in
theorem editTells_any (hP : EditsT) (hR : RefT) (s : ByteArray) (pl : List UInt8) (t : ByteArray) (w : World) (hs : s.size ≤ 1000000000000000000) (hp : pl.length ≤ 1000000000000000000) (ht : t.size ≤ 1000000000000000000) :
    Calls Try.prog 3 #[.string s, .string ⟨pl.toArray⟩, .string t] w fun e w' => e = .returned (.bool true) ∧ Below w.heap.size w w' := by
  have HU := Lib.hid (up7_any hP w)
  have HPP := Lib.hid hP
  have HRT := Lib.hid hR
  clear hP hR
  go_enter Try.func3, Try.ntmps3
  go_wp2_with fail
  refine HU.out.mono ?_
  rintro e0 w0 ⟨rfl, hb0⟩
  have HB0 := Lib.hid hb0
  have HV1 := Lib.hid (value_told s hs w0)
  clear hb0 HU
  go_wp2_with fail
  refine HV1.out.mono ?_
  rintro e1 w1 ⟨v, x1, c1, rfl, hx, hb, hc1⟩
  obtain ⟨k_1, k_2, k_3, k_4, k_5, k_6, k_7, k_8, k_9, k_a, k_b, k_c, rfl⟩ := In.cells hx
  have hb1 := HB0.out.trans (hb.mono HB0.out.size)
  have HB1 := Lib.hid (hb1.alloc hb1.size (.cells #[.int .i64 k_1, .bool k_2, .bool k_3, .string ⟨k_4.toArray⟩, .int .i64 k_5, .string ⟨k_6.toArray⟩, .slice k_7 k_8 k_9, .slice k_a k_b k_c] 28))
  have HX1 := Lib.hid (In.keep (le_alloc w1 (.cells #[.int .i64 k_1, .bool k_2, .bool k_3, .string ⟨k_4.toArray⟩, .int .i64 k_5, .string ⟨k_6.toArray⟩, .slice k_7 k_8 k_9, .slice k_a k_b k_c] 28)) _ _ hx)
  have HK1 := Lib.hid (Blk.new w1 28 #[.int .i64 k_1, .bool k_2, .bool k_3, .string ⟨k_4.toArray⟩, .int .i64 k_5, .string ⟨k_6.toArray⟩, .slice k_7 k_8 k_9, .slice k_a k_b k_c])
  have HC1 := Lib.hid hc1
  clear hx hb hb1 hc1 HV1 HB0
  go_upto_region 3 with (fail)
  generalize w1.alloc (.cells #[.int .i64 k_1, .bool k_2, .bool k_3, .string ⟨k_4.toArray⟩, .int .i64 k_5, .string ⟨k_6.toArray⟩, .slice k_7 k_8 k_9, .slice k_a k_b k_c] 28) = wa at *
  generalize w1.heap.size = gk at *
  have HLP := Lib.hid (lawPointer_any pl wa hp)
  go_wp2_with fail
  refine HLP.out.mono ?_
  rintro e2 w2 ⟨l, A, cp, c2, rfl, hs2, hl2, hm2, hA2, hb2, hc2⟩
  have HB2 := Lib.hid (HB1.out.trans (hb2.mono HB1.out.size))
  have HX2 := Lib.hid (In.keep (le_below hb2) _ _ HX1.out)
  have HK2 := Lib.hid (HK1.out.on hb2)
  have HS2 := Lib.hid hs2
  have HC2 := Lib.hid hc2
  have HA2 := Lib.hid hA2
  have HV3 := Lib.hid (value_told t ht w2)
  clear hs2 hb2 hc2 hA2 HB1 HX1 HK1 HLP
  go_wp2_with fail
  refine HV3.out.mono ?_
  rintro e3 w3 ⟨x, x3, c3, rfl, hx, hb, hc3⟩
  obtain ⟨m_1, m_2, m_3, m_4, m_5, m_6, m_7, m_8, m_9, m_a, m_b, m_c, rfl⟩ := In.cells hx
  have hba := hb.alloc hb.size (.cells #[.int .i64 m_1, .bool m_2, .bool m_3, .string ⟨m_4.toArray⟩, .int .i64 m_5, .string ⟨m_6.toArray⟩, .slice m_7 m_8 m_9, .slice m_a m_b m_c] 28)
  have HB3 := Lib.hid (HB2.out.trans (hba.mono HB2.out.size))
  have HX3 := Lib.hid (In.keep (le_below hba) _ _ HX2.out)
  have HK := Lib.hid (HK2.out.on hba)
  have HS3 := Lib.hid (HS2.out.keep (le_below hba))
  have HY3 := Lib.hid (In.keep (le_alloc w3 (.cells #[.int .i64 m_1, .bool m_2, .bool m_3, .string ⟨m_4.toArray⟩, .int .i64 m_5, .string ⟨m_6.toArray⟩, .slice m_7 m_8 m_9, .slice m_a m_b m_c] 28)) _ _ hx)
  have HM := Lib.hid (Blk.new w3 28 #[.int .i64 m_1, .bool m_2, .bool m_3, .string ⟨m_4.toArray⟩, .int .i64 m_5, .string ⟨m_6.toArray⟩, .slice m_7 m_8 m_9, .slice m_a m_b m_c])
  have HC3 := Lib.hid hc3
  clear hx hb hba hc3 HV3 HB2 HX2 HK2 HS2
  go_upto_region 5 with (fail)
  generalize w3.alloc (.cells #[.int .i64 m_1, .bool m_2, .bool m_3, .string ⟨m_4.toArray⟩, .int .i64 m_5, .string ⟨m_6.toArray⟩, .slice m_7 m_8 m_9, .slice m_a m_b m_c] 28) = wb at *
  generalize w3.heap.size = gm at *
  rcases HC1.out with rfl | ⟨rfl, hf1⟩
  · go_wp2_with fail
    go_ret
    exact ⟨rfl, HB3.out⟩
  rcases HC2.out with rfl | ⟨rfl, hpp, htx, htl⟩
  · go_wp2_with fail
    go_ret
    exact ⟨rfl, HB3.out⟩
  rcases HC3.out with rfl | ⟨rfl, hf3⟩
  · go_wp2_with fail
    go_ret
    exact ⟨rfl, HB3.out⟩
  have hnm := names_of hpp htl
  have HH := Lib.hid (show Handed v x l _ _ A cp wb from ⟨HX3.out, HY3.out, HS3.out, hl2, hm2, HA2.out, by have := hnm.1; omega, fun q hq => by have := hnm.2 q hq; omega, Ed.neat_may v hf1.1, Ed.neat_may x hf3.1, by have := hf1.2.1; omega, by have := hf3.2.1; omega⟩)
  clear hnm hpp htx htl hf1 hf3 HX3 HY3 HS3 HA2 HC1 HC2 HC3 hl2 hm2
  have hB3 := HB3.out
  obtain ⟨r1, hr1⟩ : ∃ r1, Ed.edit 1 l v x = r1 := ⟨_, rfl⟩
  obtain ⟨r2, hr2⟩ : ∃ r2, Ed.edit 2 l v x = r2 := ⟨_, rfl⟩
  obtain ⟨r3, hr3⟩ : ∃ r3, Ed.edit 3 l v x = r3 := ⟨_, rfl⟩
  have HR1 := Lib.hid hr1
  have HR2 := Lib.hid hr2
  have HR3 := Lib.hid hr3
  have HCC1 := Lib.hid (show Ed.resC r1 ≤ 14 by rw [← hr1]; exact Ed.resC_le _ _ _ _)
  have HCC2 := Lib.hid (show Ed.resC r2 ≤ 14 by rw [← hr2]; exact Ed.resC_le _ _ _ _)
  have HCC3 := Lib.hid (show Ed.resC r3 ≤ 14 by rw [← hr3]; exact Ed.resC_le _ _ _ _)
  clear hr1 hr2 hr3 hB3
  have HCL0 := Lib.hid (show Calls Try.prog _ _ wb (EditE r1 wb) by have h := HPP.out.add _ _ _ _ _ _ _ _ HH.out; rw [HR1.out] at h; exact h)
  obtain ⟨a0, a1, a2, a3, a4, a5, a6, a7⟩ := HK.out.eight
  obtain ⟨b0, b1, b2, b3, b4, b5, b6, b7⟩ := HM.out.eight
  go_wp2_with fail
  refine HCL0.out.mono ?_
  rintro ee0 wx0 ⟨yy, rfl, hy, hb⟩
  obtain ⟨z0_1, z0_2, z0_3, z0_4, z0_5, z0_6, z0_7, z0_8, z0_9, z0_a, z0_b, z0_c, rfl⟩ := In.cells hy
  have hba := hb.alloc hb.size (.cells #[.int .i64 z0_1, .bool z0_2, .bool z0_3, .string ⟨z0_4.toArray⟩, .int .i64 z0_5, .string ⟨z0_6.toArray⟩, .slice z0_7 z0_8 z0_9, .slice z0_a z0_b z0_c] 28)
  have HB3' := Lib.hid (HB3.out.trans (hba.mono HB3.out.size))
  have HH' := Lib.hid (HH.out.keep hba)
  have HK' := Lib.hid (HK.out.on hba)
  have HM' := Lib.hid (HM.out.on hba)
  have HZ0 := Lib.hid (In.keep (le_alloc wx0 (.cells #[.int .i64 z0_1, .bool z0_2, .bool z0_3, .string ⟨z0_4.toArray⟩, .int .i64 z0_5, .string ⟨z0_6.toArray⟩, .slice z0_7 z0_8 z0_9, .slice z0_a z0_b z0_c] 28)) _ _ hy)
  have HN0 := Lib.hid (Blk.new wx0 28 #[.int .i64 z0_1, .bool z0_2, .bool z0_3, .string ⟨z0_4.toArray⟩, .int .i64 z0_5, .string ⟨z0_6.toArray⟩, .slice z0_7 z0_8 z0_9, .slice z0_a z0_b z0_c])
  clear hy hb hba HCL0 HB3 HH HK HM a0 a1 a2 a3 a4 a5 a6 a7 b0 b1 b2 b3 b4 b5 b6 b7 
  have HB3 := Lib.hid HB3'.out
  have HH := Lib.hid HH'.out
  have HK := Lib.hid HK'.out
  have HM := Lib.hid HM'.out
  clear HB3' HH' HK' HM' 
  go_upto_region 8 with (fail)
  generalize wx0.alloc (.cells #[.int .i64 z0_1, .bool z0_2, .bool z0_3, .string ⟨z0_4.toArray⟩, .int .i64 z0_5, .string ⟨z0_6.toArray⟩, .slice z0_7 z0_8 z0_9, .slice z0_a z0_b z0_c] 28) = wn0 at *
  generalize wx0.heap.size = gg0 at *
  have HCL1 := Lib.hid (show Calls Try.prog _ _ wn0 (EditE r2 wn0) by have h := HPP.out.remove _ _ _ _ _ _ _ _ HH.out; rw [HR2.out] at h; exact h)
  obtain ⟨a0, a1, a2, a3, a4, a5, a6, a7⟩ := HK.out.eight
  obtain ⟨b0, b1, b2, b3, b4, b5, b6, b7⟩ := HM.out.eight
  go_wp2_with fail
  refine HCL1.out.mono ?_
  rintro ee1 wx1 ⟨yy, rfl, hy, hb⟩
  obtain ⟨z1_1, z1_2, z1_3, z1_4, z1_5, z1_6, z1_7, z1_8, z1_9, z1_a, z1_b, z1_c, rfl⟩ := In.cells hy
  have hba := hb.alloc hb.size (.cells #[.int .i64 z1_1, .bool z1_2, .bool z1_3, .string ⟨z1_4.toArray⟩, .int .i64 z1_5, .string ⟨z1_6.toArray⟩, .slice z1_7 z1_8 z1_9, .slice z1_a z1_b z1_c] 28)
  have HB3' := Lib.hid (HB3.out.trans (hba.mono HB3.out.size))
  have HH' := Lib.hid (HH.out.keep hba)
  have HK' := Lib.hid (HK.out.on hba)
  have HM' := Lib.hid (HM.out.on hba)
  have HZ1 := Lib.hid (In.keep (le_alloc wx1 (.cells #[.int .i64 z1_1, .bool z1_2, .bool z1_3, .string ⟨z1_4.toArray⟩, .int .i64 z1_5, .string ⟨z1_6.toArray⟩, .slice z1_7 z1_8 z1_9, .slice z1_a z1_b z1_c] 28)) _ _ hy)
  have HN1 := Lib.hid (Blk.new wx1 28 #[.int .i64 z1_1, .bool z1_2, .bool z1_3, .string ⟨z1_4.toArray⟩, .int .i64 z1_5, .string ⟨z1_6.toArray⟩, .slice z1_7 z1_8 z1_9, .slice z1_a z1_b z1_c])
  have HZ0' := Lib.hid (In.keep (le_below hba) _ _ HZ0.out)
  have HN0' := Lib.hid (HN0.out.on hba)
  clear hy hb hba HCL1 HB3 HH HK HM a0 a1 a2 a3 a4 a5 a6 a7 b0 b1 b2 b3 b4 b5 b6 b7 HZ0 HN0
  have HB3 := Lib.hid HB3'.out
  have HH := Lib.hid HH'.out
  have HK := Lib.hid HK'.out
  have HM := Lib.hid HM'.out
  have HZ0 := Lib.hid HZ0'.out
  have HN0 := Lib.hid HN0'.out
  clear HB3' HH' HK' HM' HZ0' HN0'
  go_upto_region 9 with (fail)
  generalize wx1.alloc (.cells #[.int .i64 z1_1, .bool z1_2, .bool z1_3, .string ⟨z1_4.toArray⟩, .int .i64 z1_5, .string ⟨z1_6.toArray⟩, .slice z1_7 z1_8 z1_9, .slice z1_a z1_b z1_c] 28) = wn1 at *
  generalize wx1.heap.size = gg1 at *
  have HCL2 := Lib.hid (show Calls Try.prog _ _ wn1 (EditE r3 wn1) by have h := HPP.out.replace _ _ _ _ _ _ _ _ HH.out; rw [HR3.out] at h; exact h)
  obtain ⟨a0, a1, a2, a3, a4, a5, a6, a7⟩ := HK.out.eight
  obtain ⟨b0, b1, b2, b3, b4, b5, b6, b7⟩ := HM.out.eight
  go_wp2_with fail
  refine HCL2.out.mono ?_
  rintro ee2 wx2 ⟨yy, rfl, hy, hb⟩
  obtain ⟨z2_1, z2_2, z2_3, z2_4, z2_5, z2_6, z2_7, z2_8, z2_9, z2_a, z2_b, z2_c, rfl⟩ := In.cells hy
  have hba := hb.alloc hb.size (.cells #[.int .i64 z2_1, .bool z2_2, .bool z2_3, .string ⟨z2_4.toArray⟩, .int .i64 z2_5, .string ⟨z2_6.toArray⟩, .slice z2_7 z2_8 z2_9, .slice z2_a z2_b z2_c] 28)
  have HB3' := Lib.hid (HB3.out.trans (hba.mono HB3.out.size))
  have HH' := Lib.hid (HH.out.keep hba)
  have HK' := Lib.hid (HK.out.on hba)
  have HM' := Lib.hid (HM.out.on hba)
  have HZ2 := Lib.hid (In.keep (le_alloc wx2 (.cells #[.int .i64 z2_1, .bool z2_2, .bool z2_3, .string ⟨z2_4.toArray⟩, .int .i64 z2_5, .string ⟨z2_6.toArray⟩, .slice z2_7 z2_8 z2_9, .slice z2_a z2_b z2_c] 28)) _ _ hy)
  have HN2 := Lib.hid (Blk.new wx2 28 #[.int .i64 z2_1, .bool z2_2, .bool z2_3, .string ⟨z2_4.toArray⟩, .int .i64 z2_5, .string ⟨z2_6.toArray⟩, .slice z2_7 z2_8 z2_9, .slice z2_a z2_b z2_c])
  have HZ0' := Lib.hid (In.keep (le_below hba) _ _ HZ0.out)
  have HN0' := Lib.hid (HN0.out.on hba)
  have HZ1' := Lib.hid (In.keep (le_below hba) _ _ HZ1.out)
  have HN1' := Lib.hid (HN1.out.on hba)
  clear hy hb hba HCL2 HB3 HH HK HM a0 a1 a2 a3 a4 a5 a6 a7 b0 b1 b2 b3 b4 b5 b6 b7 HZ0 HN0 HZ1 HN1
  have HB3 := Lib.hid HB3'.out
  have HH := Lib.hid HH'.out
  have HK := Lib.hid HK'.out
  have HM := Lib.hid HM'.out
  have HZ0 := Lib.hid HZ0'.out
  have HN0 := Lib.hid HN0'.out
  have HZ1 := Lib.hid HZ1'.out
  have HN1 := Lib.hid HN1'.out
  clear HB3' HH' HK' HM' HZ0' HN0' HZ1' HN1'
  go_upto_region 10 with (fail)
  generalize wx2.alloc (.cells #[.int .i64 z2_1, .bool z2_2, .bool z2_3, .string ⟨z2_4.toArray⟩, .int .i64 z2_5, .string ⟨z2_6.toArray⟩, .slice z2_7 z2_8 z2_9, .slice z2_a z2_b z2_c] 28) = wn2 at *
  generalize wx2.heap.size = gg2 at *
  have HCL3 := Lib.hid (show Calls Try.prog _ _ wn2 (EditS r1 wn2) by have h := HRT.out.edit 1 (.inl rfl) HH.out; rw [HR1.out] at h; exact h)
  obtain ⟨a0, a1, a2, a3, a4, a5, a6, a7⟩ := HK.out.eight
  obtain ⟨b0, b1, b2, b3, b4, b5, b6, b7⟩ := HM.out.eight
  go_wp2_with fail
  refine HCL3.out.mono ?_
  rintro ee3 wx3 ⟨yy, rfl, hy, hb⟩
  obtain ⟨z3_1, z3_2, z3_3, z3_4, z3_5, z3_6, z3_7, z3_8, z3_9, z3_a, z3_b, z3_c, rfl⟩ := In.cells hy
  have hba := hb.alloc hb.size (.cells #[.int .i64 z3_1, .bool z3_2, .bool z3_3, .string ⟨z3_4.toArray⟩, .int .i64 z3_5, .string ⟨z3_6.toArray⟩, .slice z3_7 z3_8 z3_9, .slice z3_a z3_b z3_c] 28)
  have HB3' := Lib.hid (HB3.out.trans (hba.mono HB3.out.size))
  have HH' := Lib.hid (HH.out.keep hba)
  have HK' := Lib.hid (HK.out.on hba)
  have HM' := Lib.hid (HM.out.on hba)
  have HZ3 := Lib.hid (In.keep (le_alloc wx3 (.cells #[.int .i64 z3_1, .bool z3_2, .bool z3_3, .string ⟨z3_4.toArray⟩, .int .i64 z3_5, .string ⟨z3_6.toArray⟩, .slice z3_7 z3_8 z3_9, .slice z3_a z3_b z3_c] 28)) _ _ hy)
  have HN3 := Lib.hid (Blk.new wx3 28 #[.int .i64 z3_1, .bool z3_2, .bool z3_3, .string ⟨z3_4.toArray⟩, .int .i64 z3_5, .string ⟨z3_6.toArray⟩, .slice z3_7 z3_8 z3_9, .slice z3_a z3_b z3_c])
  have HZ0' := Lib.hid (In.keep (le_below hba) _ _ HZ0.out)
  have HN0' := Lib.hid (HN0.out.on hba)
  have HZ1' := Lib.hid (In.keep (le_below hba) _ _ HZ1.out)
  have HN1' := Lib.hid (HN1.out.on hba)
  have HZ2' := Lib.hid (In.keep (le_below hba) _ _ HZ2.out)
  have HN2' := Lib.hid (HN2.out.on hba)
  clear hy hb hba HCL3 HB3 HH HK HM a0 a1 a2 a3 a4 a5 a6 a7 b0 b1 b2 b3 b4 b5 b6 b7 HZ0 HN0 HZ1 HN1 HZ2 HN2
  have HB3 := Lib.hid HB3'.out
  have HH := Lib.hid HH'.out
  have HK := Lib.hid HK'.out
  have HM := Lib.hid HM'.out
  have HZ0 := Lib.hid HZ0'.out
  have HN0 := Lib.hid HN0'.out
  have HZ1 := Lib.hid HZ1'.out
  have HN1 := Lib.hid HN1'.out
  have HZ2 := Lib.hid HZ2'.out
  have HN2 := Lib.hid HN2'.out
  clear HB3' HH' HK' HM' HZ0' HN0' HZ1' HN1' HZ2' HN2'
  go_upto_region 11 with (fail)
  generalize wx3.alloc (.cells #[.int .i64 z3_1, .bool z3_2, .bool z3_3, .string ⟨z3_4.toArray⟩, .int .i64 z3_5, .string ⟨z3_6.toArray⟩, .slice z3_7 z3_8 z3_9, .slice z3_a z3_b z3_c] 28) = wn3 at *
  generalize wx3.heap.size = gg3 at *
  have HCL4 := Lib.hid (show Calls Try.prog _ _ wn3 (EditS r2 wn3) by have h := HRT.out.edit 2 (.inr (.inl rfl)) HH.out; rw [HR2.out] at h; exact h)
  obtain ⟨a0, a1, a2, a3, a4, a5, a6, a7⟩ := HK.out.eight
  obtain ⟨b0, b1, b2, b3, b4, b5, b6, b7⟩ := HM.out.eight
  go_wp2_with fail
  refine HCL4.out.mono ?_
  rintro ee4 wx4 ⟨yy, rfl, hy, hb⟩
  obtain ⟨z4_1, z4_2, z4_3, z4_4, z4_5, z4_6, z4_7, z4_8, z4_9, z4_a, z4_b, z4_c, rfl⟩ := In.cells hy
  have hba := hb.alloc hb.size (.cells #[.int .i64 z4_1, .bool z4_2, .bool z4_3, .string ⟨z4_4.toArray⟩, .int .i64 z4_5, .string ⟨z4_6.toArray⟩, .slice z4_7 z4_8 z4_9, .slice z4_a z4_b z4_c] 28)
  have HB3' := Lib.hid (HB3.out.trans (hba.mono HB3.out.size))
  have HH' := Lib.hid (HH.out.keep hba)
  have HK' := Lib.hid (HK.out.on hba)
  have HM' := Lib.hid (HM.out.on hba)
  have HZ4 := Lib.hid (In.keep (le_alloc wx4 (.cells #[.int .i64 z4_1, .bool z4_2, .bool z4_3, .string ⟨z4_4.toArray⟩, .int .i64 z4_5, .string ⟨z4_6.toArray⟩, .slice z4_7 z4_8 z4_9, .slice z4_a z4_b z4_c] 28)) _ _ hy)
  have HN4 := Lib.hid (Blk.new wx4 28 #[.int .i64 z4_1, .bool z4_2, .bool z4_3, .string ⟨z4_4.toArray⟩, .int .i64 z4_5, .string ⟨z4_6.toArray⟩, .slice z4_7 z4_8 z4_9, .slice z4_a z4_b z4_c])
  have HZ0' := Lib.hid (In.keep (le_below hba) _ _ HZ0.out)
  have HN0' := Lib.hid (HN0.out.on hba)
  have HZ1' := Lib.hid (In.keep (le_below hba) _ _ HZ1.out)
  have HN1' := Lib.hid (HN1.out.on hba)
  have HZ2' := Lib.hid (In.keep (le_below hba) _ _ HZ2.out)
  have HN2' := Lib.hid (HN2.out.on hba)
  have HZ3' := Lib.hid (In.keep (le_below hba) _ _ HZ3.out)
  have HN3' := Lib.hid (HN3.out.on hba)
  clear hy hb hba HCL4 HB3 HH HK HM a0 a1 a2 a3 a4 a5 a6 a7 b0 b1 b2 b3 b4 b5 b6 b7 HZ0 HN0 HZ1 HN1 HZ2 HN2 HZ3 HN3
  have HB3 := Lib.hid HB3'.out
  have HH := Lib.hid HH'.out
  have HK := Lib.hid HK'.out
  have HM := Lib.hid HM'.out
  have HZ0 := Lib.hid HZ0'.out
  have HN0 := Lib.hid HN0'.out
  have HZ1 := Lib.hid HZ1'.out
  have HN1 := Lib.hid HN1'.out
  have HZ2 := Lib.hid HZ2'.out
  have HN2 := Lib.hid HN2'.out
  have HZ3 := Lib.hid HZ3'.out
  have HN3 := Lib.hid HN3'.out
  clear HB3' HH' HK' HM' HZ0' HN0' HZ1' HN1' HZ2' HN2' HZ3' HN3'
  go_upto_region 12 with (fail)
  generalize wx4.alloc (.cells #[.int .i64 z4_1, .bool z4_2, .bool z4_3, .string ⟨z4_4.toArray⟩, .int .i64 z4_5, .string ⟨z4_6.toArray⟩, .slice z4_7 z4_8 z4_9, .slice z4_a z4_b z4_c] 28) = wn4 at *
  generalize wx4.heap.size = gg4 at *
  have HCL5 := Lib.hid (show Calls Try.prog _ _ wn4 (EditS r3 wn4) by have h := HRT.out.edit 3 (.inr (.inr rfl)) HH.out; rw [HR3.out] at h; exact h)
  obtain ⟨a0, a1, a2, a3, a4, a5, a6, a7⟩ := HK.out.eight
  obtain ⟨b0, b1, b2, b3, b4, b5, b6, b7⟩ := HM.out.eight
  go_wp2_with fail
  refine HCL5.out.mono ?_
  rintro ee5 wx5 ⟨yy, rfl, hy, hb⟩
  obtain ⟨z5_1, z5_2, z5_3, z5_4, z5_5, z5_6, z5_7, z5_8, z5_9, z5_a, z5_b, z5_c, rfl⟩ := In.cells hy
  have hba := hb.alloc hb.size (.cells #[.int .i64 z5_1, .bool z5_2, .bool z5_3, .string ⟨z5_4.toArray⟩, .int .i64 z5_5, .string ⟨z5_6.toArray⟩, .slice z5_7 z5_8 z5_9, .slice z5_a z5_b z5_c] 28)
  have HB3' := Lib.hid (HB3.out.trans (hba.mono HB3.out.size))
  have HH' := Lib.hid (HH.out.keep hba)
  have HK' := Lib.hid (HK.out.on hba)
  have HM' := Lib.hid (HM.out.on hba)
  have HZ5 := Lib.hid (In.keep (le_alloc wx5 (.cells #[.int .i64 z5_1, .bool z5_2, .bool z5_3, .string ⟨z5_4.toArray⟩, .int .i64 z5_5, .string ⟨z5_6.toArray⟩, .slice z5_7 z5_8 z5_9, .slice z5_a z5_b z5_c] 28)) _ _ hy)
  have HN5 := Lib.hid (Blk.new wx5 28 #[.int .i64 z5_1, .bool z5_2, .bool z5_3, .string ⟨z5_4.toArray⟩, .int .i64 z5_5, .string ⟨z5_6.toArray⟩, .slice z5_7 z5_8 z5_9, .slice z5_a z5_b z5_c])
  have HZ0' := Lib.hid (In.keep (le_below hba) _ _ HZ0.out)
  have HN0' := Lib.hid (HN0.out.on hba)
  have HZ1' := Lib.hid (In.keep (le_below hba) _ _ HZ1.out)
  have HN1' := Lib.hid (HN1.out.on hba)
  have HZ2' := Lib.hid (In.keep (le_below hba) _ _ HZ2.out)
  have HN2' := Lib.hid (HN2.out.on hba)
  have HZ3' := Lib.hid (In.keep (le_below hba) _ _ HZ3.out)
  have HN3' := Lib.hid (HN3.out.on hba)
  have HZ4' := Lib.hid (In.keep (le_below hba) _ _ HZ4.out)
  have HN4' := Lib.hid (HN4.out.on hba)
  clear hy hb hba HCL5 HB3 HH HK HM a0 a1 a2 a3 a4 a5 a6 a7 b0 b1 b2 b3 b4 b5 b6 b7 HZ0 HN0 HZ1 HN1 HZ2 HN2 HZ3 HN3 HZ4 HN4
  have HB3 := Lib.hid HB3'.out
  have HH := Lib.hid HH'.out
  have HK := Lib.hid HK'.out
  have HM := Lib.hid HM'.out
  have HZ0 := Lib.hid HZ0'.out
  have HN0 := Lib.hid HN0'.out
  have HZ1 := Lib.hid HZ1'.out
  have HN1 := Lib.hid HN1'.out
  have HZ2 := Lib.hid HZ2'.out
  have HN2 := Lib.hid HN2'.out
  have HZ3 := Lib.hid HZ3'.out
  have HN3 := Lib.hid HN3'.out
  have HZ4 := Lib.hid HZ4'.out
  have HN4 := Lib.hid HN4'.out
  clear HB3' HH' HK' HM' HZ0' HN0' HZ1' HN1' HZ2' HN2' HZ3' HN3' HZ4' HN4'
  go_upto_region 13 with (fail)
  generalize wx5.alloc (.cells #[.int .i64 z5_1, .bool z5_2, .bool z5_3, .string ⟨z5_4.toArray⟩, .int .i64 z5_5, .string ⟨z5_6.toArray⟩, .slice z5_7 z5_8 z5_9, .slice z5_a z5_b z5_c] 28) = wn5 at *
  generalize wx5.heap.size = gg5 at *
  clear HH HK HM
  have HRF := Lib.hid (fun (z : Vl) (x x' : Value) (W : World) (hx : z.In W.cell? x) (hx' : z.In W.cell? x') => by have h := refSame_any z z x x' W hx hx'; rw [same_refl] at h; exact h)
  obtain ⟨a0, a1, a2, a3, a4, a5, a6, a7⟩ := HN0.out.eight
  obtain ⟨b0, b1, b2, b3, b4, b5, b6, b7⟩ := HN3.out.eight
  have HSM := Lib.hid (HRF.out _ _ _ wn5 HZ0.out HZ3.out)
  go_wp2_with fail
  refine HSM.out.mono ?_
  rintro es0 ws0 ⟨rfl, hb⟩
  have HB3' := Lib.hid (HB3.out.trans (hb.mono HB3.out.size))
  have HZ0' := Lib.hid (In.keep (le_below hb) _ _ HZ0.out)
  have HN0' := Lib.hid (HN0.out.on hb)
  have HZ1' := Lib.hid (In.keep (le_below hb) _ _ HZ1.out)
  have HN1' := Lib.hid (HN1.out.on hb)
  have HZ2' := Lib.hid (In.keep (le_below hb) _ _ HZ2.out)
  have HN2' := Lib.hid (HN2.out.on hb)
  have HZ3' := Lib.hid (In.keep (le_below hb) _ _ HZ3.out)
  have HN3' := Lib.hid (HN3.out.on hb)
  have HZ4' := Lib.hid (In.keep (le_below hb) _ _ HZ4.out)
  have HN4' := Lib.hid (HN4.out.on hb)
  have HZ5' := Lib.hid (In.keep (le_below hb) _ _ HZ5.out)
  have HN5' := Lib.hid (HN5.out.on hb)
  clear hb HSM HB3 a0 a1 a2 a3 a4 a5 a6 a7 b0 b1 b2 b3 b4 b5 b6 b7 HZ0 HN0 HZ1 HN1 HZ2 HN2 HZ3 HN3 HZ4 HN4 HZ5 HN5
  have HB3 := Lib.hid HB3'.out
  have HZ0 := Lib.hid HZ0'.out
  have HN0 := Lib.hid HN0'.out
  have HZ1 := Lib.hid HZ1'.out
  have HN1 := Lib.hid HN1'.out
  have HZ2 := Lib.hid HZ2'.out
  have HN2 := Lib.hid HN2'.out
  have HZ3 := Lib.hid HZ3'.out
  have HN3 := Lib.hid HN3'.out
  have HZ4 := Lib.hid HZ4'.out
  have HN4 := Lib.hid HN4'.out
  have HZ5 := Lib.hid HZ5'.out
  have HN5 := Lib.hid HN5'.out
  clear HB3' HZ0' HN0' HZ1' HN1' HZ2' HN2' HZ3' HN3' HZ4' HN4' HZ5' HN5'
  obtain ⟨a0, a1, a2, a3, a4, a5, a6, a7⟩ := HN1.out.eight
  obtain ⟨b0, b1, b2, b3, b4, b5, b6, b7⟩ := HN4.out.eight
  have HSM := Lib.hid (HRF.out _ _ _ ws0 HZ1.out HZ4.out)
  go_wp2_with fail
  refine HSM.out.mono ?_
  rintro es1 ws1 ⟨rfl, hb⟩
  have HB3' := Lib.hid (HB3.out.trans (hb.mono HB3.out.size))
  have HZ0' := Lib.hid (In.keep (le_below hb) _ _ HZ0.out)
  have HN0' := Lib.hid (HN0.out.on hb)
  have HZ1' := Lib.hid (In.keep (le_below hb) _ _ HZ1.out)
  have HN1' := Lib.hid (HN1.out.on hb)
  have HZ2' := Lib.hid (In.keep (le_below hb) _ _ HZ2.out)
  have HN2' := Lib.hid (HN2.out.on hb)
  have HZ3' := Lib.hid (In.keep (le_below hb) _ _ HZ3.out)
  have HN3' := Lib.hid (HN3.out.on hb)
  have HZ4' := Lib.hid (In.keep (le_below hb) _ _ HZ4.out)
  have HN4' := Lib.hid (HN4.out.on hb)
  have HZ5' := Lib.hid (In.keep (le_below hb) _ _ HZ5.out)
  have HN5' := Lib.hid (HN5.out.on hb)
  clear hb HSM HB3 a0 a1 a2 a3 a4 a5 a6 a7 b0 b1 b2 b3 b4 b5 b6 b7 HZ0 HN0 HZ1 HN1 HZ2 HN2 HZ3 HN3 HZ4 HN4 HZ5 HN5
  have HB3 := Lib.hid HB3'.out
  have HZ0 := Lib.hid HZ0'.out
  have HN0 := Lib.hid HN0'.out
  have HZ1 := Lib.hid HZ1'.out
  have HN1 := Lib.hid HN1'.out
  have HZ2 := Lib.hid HZ2'.out
  have HN2 := Lib.hid HN2'.out
  have HZ3 := Lib.hid HZ3'.out
  have HN3 := Lib.hid HN3'.out
  have HZ4 := Lib.hid HZ4'.out
  have HN4 := Lib.hid HN4'.out
  have HZ5 := Lib.hid HZ5'.out
  have HN5 := Lib.hid HN5'.out
  clear HB3' HZ0' HN0' HZ1' HN1' HZ2' HN2' HZ3' HN3' HZ4' HN4' HZ5' HN5'
  obtain ⟨a0, a1, a2, a3, a4, a5, a6, a7⟩ := HN2.out.eight
  obtain ⟨b0, b1, b2, b3, b4, b5, b6, b7⟩ := HN5.out.eight
  have HSM := Lib.hid (HRF.out _ _ _ ws1 HZ2.out HZ5.out)
  go_wp2_with fail
  refine HSM.out.mono ?_
  rintro es2 ws2 ⟨rfl, hb⟩
  have HB3' := Lib.hid (HB3.out.trans (hb.mono HB3.out.size))
  have HZ0' := Lib.hid (In.keep (le_below hb) _ _ HZ0.out)
  have HN0' := Lib.hid (HN0.out.on hb)
  have HZ1' := Lib.hid (In.keep (le_below hb) _ _ HZ1.out)
  have HN1' := Lib.hid (HN1.out.on hb)
  have HZ2' := Lib.hid (In.keep (le_below hb) _ _ HZ2.out)
  have HN2' := Lib.hid (HN2.out.on hb)
  have HZ3' := Lib.hid (In.keep (le_below hb) _ _ HZ3.out)
  have HN3' := Lib.hid (HN3.out.on hb)
  have HZ4' := Lib.hid (In.keep (le_below hb) _ _ HZ4.out)
  have HN4' := Lib.hid (HN4.out.on hb)
  have HZ5' := Lib.hid (In.keep (le_below hb) _ _ HZ5.out)
  have HN5' := Lib.hid (HN5.out.on hb)
  clear hb HSM HB3 a0 a1 a2 a3 a4 a5 a6 a7 b0 b1 b2 b3 b4 b5 b6 b7 HZ0 HN0 HZ1 HN1 HZ2 HN2 HZ3 HN3 HZ4 HN4 HZ5 HN5
  have HB3 := Lib.hid HB3'.out
  have HZ0 := Lib.hid HZ0'.out
  have HN0 := Lib.hid HN0'.out
  have HZ1 := Lib.hid HZ1'.out
  have HN1 := Lib.hid HN1'.out
  have HZ2 := Lib.hid HZ2'.out
  have HN2 := Lib.hid HN2'.out
  have HZ3 := Lib.hid HZ3'.out
  have HN3 := Lib.hid HN3'.out
  have HZ4 := Lib.hid HZ4'.out
  have HN4 := Lib.hid HN4'.out
  have HZ5 := Lib.hid HZ5'.out
  have HN5 := Lib.hid HN5'.out
  clear HB3' HZ0' HN0' HZ1' HN1' HZ2' HN2' HZ3' HN3' HZ4' HN4' HZ5' HN5'
  go_wp2_with fail
  refine (code_any (Ed.resC r1) _ (by omega) (by have := HCC1.out; omega)).mono ?_
  rintro e7 w7 ⟨rfl, rfl⟩
  go_wp2_with fail
  refine (code_any (Ed.resC r2) _ (by omega) (by have := HCC2.out; omega)).mono ?_
  rintro e8 w8 ⟨rfl, rfl⟩
  go_wp2_with fail
  refine (code_any (Ed.resC r3) _ (by omega) (by have := HCC3.out; omega)).mono ?_
  rintro e9 w9 ⟨rfl, rfl⟩
  go_wp2_with fail
  go_ret
  exact ⟨rfl, HB3.out⟩

end Go.Proofs.Ytmdpjhcghdjmmaa

