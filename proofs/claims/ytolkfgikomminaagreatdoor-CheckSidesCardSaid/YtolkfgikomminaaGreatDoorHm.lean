/- The law CheckSides (layer 14), given what the program's Own is to do. (By gen_hm.py.) -/
import Derived.Test.YtolkfgikomminaaGreatDoorHk
import Derived.Deep.CutRange
namespace Go.Proofs.YtolkfgikomminaaGreatDoor
open Go.RowKit Js Pt

theorem ownKey14 {G : World → Prop} (hO : OwnT G) {nm : List UInt8} {k v : Vl} {xv : Value} {W : World} {g : Nat} (hg : G W) (hk : SlKey W.cell? (some ⟨g, 0, none⟩) [⟨nm, k, []⟩]) (hwk : Wide k) (hwv : Wide v) (hx : v.In W.cell? xv) {n : Nat} (hn : n = if Ow.fails nm k v = true then 1 else 0) :
  Calls Tryz.prog 9 #[.agg #[.string ⟨#[]⟩, .bool false, .bool false, .slice (some ⟨g, 0, none⟩) 1 1], xv] W fun e w' => ∃ (A : Option Addr) (c : Nat), e = .returned (.slice A n c) ∧ Below W.heap.size W w' := by
 refine (hO [] [] false false [⟨nm, k, []⟩] (some ⟨g, 0, none⟩) 1 v xv W hg hk (Nat.le_refl _) (by unfold maxLen; omega) (by simp) (fun K hK => by rw [List.mem_singleton.1 hK]; exact hwk) hwv hx (fun h => by cases h)).mono ?_
 rintro e w' ⟨A, c, rfl, _, _, _, hb⟩
 refine ⟨A, c, ?_, hb⟩
 rw [show Ow.own ⟨[], false, false, [⟨nm, k, []⟩]⟩ v = if Ow.fails nm k v = true then [nm] else [] from Ow.own_one nm k v, hn]
 split <;> rfl
theorem ownNone14 {G : World → Prop} (hO : OwnT G) {v : Vl} {xv : Value} {W : World} (hg : G W) (hwv : Wide v) (hx : v.In W.cell? xv) :
  Calls Tryz.prog 9 #[.agg #[.string ⟨#[]⟩, .bool false, .bool false, .slice none 0 0], xv] W fun e w' => ∃ (A : Option Addr) (c : Nat), e = .returned (.slice A 0 c) ∧ Below W.heap.size W w' := by
 refine (hO [] [] false false [] none 0 v xv W hg (fun i p h => by simp at h) (Nat.le_refl _) (by unfold maxLen; omega) (by simp) (fun K hK => by cases hK) hwv hx (fun h => by cases h)).mono ?_
 rintro e w' ⟨A, c, rfl, _, _, _, hb⟩
 refine ⟨A, c, ?_, hb⟩
 rw [Ow.own_none]
 rfl
theorem cells14 {c : Cl} {v : Vl} {k_1 : Int} {k_2 k_3 : Bool} {k_4 : List UInt8} {k_5 : Int} {k_6 : List UInt8} {k_7 : Option Addr} {k_8 k_9 : Nat} {k_a : Option Addr} {k_b k_c : Nat} (h : v.In c (.agg #[.int .i64 k_1, .bool k_2, .bool k_3, .string ⟨k_4.toArray⟩, .int .i64 k_5, .string ⟨k_6.toArray⟩, .slice k_7 k_8 k_9, .slice k_a k_b k_c])) : Sh.kindOf v = k_1 ∧ (Ow.listOf v).length = k_8 ∧ SlL c k_7 (Ow.listOf v) := by
 obtain ⟨k', b', n', s', l', m'⟩ := v
 obtain ⟨A, e, B, d, he, _, _, _, _, hl, _⟩ := In.form h
 unfold vlV at he
 simp at he
 obtain ⟨rfl, _, _, _, _, _, ⟨rfl, rfl, _⟩, _⟩ := he
 exact ⟨rfl, rfl, hl⟩

set_option linter.unusedVariables false in
set_option linter.unusedSimpArgs false in
set_option maxRecDepth 100000 in
set_option maxHeartbeats 32000000 in
theorem checkSides_any {G : World → Prop} (hG : Stays G) (hO : OwnT G) (s t : ByteArray) (w : World) (hg : G w) (hs : s.size ≤ 1000000000000000000) (ht : t.size ≤ 1000000000000000000) :
  Calls Tryz.prog 4 #[.string s, .string t] w fun e w' => e = .returned (.bool true) ∧ Below w.heap.size w w' := by
 have HU := Lib.hid (up14_any hG hO w hg)
 have HG0 := Lib.hid (fun (W : World) (h : Below w.heap.size w W) => hG _ _ hg h)
 have HO := Lib.hid hO
 have HVS := Lib.hid (fun W => value_told s hs W)
 have HVT := Lib.hid (fun W => value_told t ht W)
 clear hG hO hg hs ht
 go_enter Tryz.func4, Tryz.ntmps4
 go_wp2_with fail
 refine HU.out.mono ?_
 rintro e0 w0 ⟨rfl, hb0⟩
 have HB0 := Lib.hid hb0
 clear hb0 HU
 go_wp2_with fail
 refine (HVS.out w0).mono ?_
 rintro e1 w1 ⟨v, x, cv, rfl, hx, hb1, hcv⟩
 obtain ⟨k_1, k_2, k_3, k_4, k_5, k_6, k_7, k_8, k_9, k_a, k_b, k_c, rfl⟩ := In.cells hx
 have hb1a := hb1.alloc hb1.size (.cells #[.int .i64 k_1, .bool k_2, .bool k_3, .string ⟨k_4.toArray⟩, .int .i64 k_5, .string ⟨k_6.toArray⟩, .slice k_7 k_8 k_9, .slice k_a k_b k_c] 31)
 have HB1 := Lib.hid (HB0.out.trans (hb1a.mono HB0.out.size))
 have HBV1 := Lib.hid (Blk.new w1 31 #[.int .i64 k_1, .bool k_2, .bool k_3, .string ⟨k_4.toArray⟩, .int .i64 k_5, .string ⟨k_6.toArray⟩, .slice k_7 k_8 k_9, .slice k_a k_b k_c])
 have HXV1 := Lib.hid (In.keep (le_alloc w1 (.cells #[.int .i64 k_1, .bool k_2, .bool k_3, .string ⟨k_4.toArray⟩, .int .i64 k_5, .string ⟨k_6.toArray⟩, .slice k_7 k_8 k_9, .slice k_a k_b k_c] 31)) _ _ hx)
 have HCV := Lib.hid hcv
 clear hx hb1 hb1a hcv HVS HB0
 go_upto_region 3 with (fail)
 generalize w1.alloc (.cells #[.int .i64 k_1, .bool k_2, .bool k_3, .string ⟨k_4.toArray⟩, .int .i64 k_5, .string ⟨k_6.toArray⟩, .slice k_7 k_8 k_9, .slice k_a k_b k_c] 31) = w1a at *
 generalize w1.heap.size = gV at *
 go_wp2_with fail
 refine (HVT.out w1a).mono ?_
 rintro e2 w2 ⟨y, x2, cw, rfl, hx2, hb2, hcw⟩
 obtain ⟨m_1, m_2, m_3, m_4, m_5, m_6, m_7, m_8, m_9, m_a, m_b, m_c, rfl⟩ := In.cells hx2
 have hb2a := hb2.alloc hb2.size (.cells #[.int .i64 m_1, .bool m_2, .bool m_3, .string ⟨m_4.toArray⟩, .int .i64 m_5, .string ⟨m_6.toArray⟩, .slice m_7 m_8 m_9, .slice m_a m_b m_c] 31)
 have HBZ := Lib.hid (HB1.out.trans (hb2a.mono HB1.out.size))
 have HBW := Lib.hid (Blk.new w2 31 #[.int .i64 m_1, .bool m_2, .bool m_3, .string ⟨m_4.toArray⟩, .int .i64 m_5, .string ⟨m_6.toArray⟩, .slice m_7 m_8 m_9, .slice m_a m_b m_c])
 have HXW := Lib.hid (In.keep (le_alloc w2 (.cells #[.int .i64 m_1, .bool m_2, .bool m_3, .string ⟨m_4.toArray⟩, .int .i64 m_5, .string ⟨m_6.toArray⟩, .slice m_7 m_8 m_9, .slice m_a m_b m_c] 31)) _ _ hx2)
 have HBV := Lib.hid (HBV1.out.on hb2a)
 have HXV := Lib.hid (In.keep (le_below hb2a) _ _ HXV1.out)
 have HCW := Lib.hid hcw
 clear hx2 hb2 hb2a hcw HVT HB1 HBV1 HXV1
 go_upto_region 4 with (fail)
 generalize w2.alloc (.cells #[.int .i64 m_1, .bool m_2, .bool m_3, .string ⟨m_4.toArray⟩, .int .i64 m_5, .string ⟨m_6.toArray⟩, .slice m_7 m_8 m_9, .slice m_a m_b m_c] 31) = wz at *
 generalize w2.heap.size = gW at *
 have HG := Lib.hid (fun (W : World) (h : Below wz.heap.size wz W) => HG0.out W (HBZ.out.trans (h.mono HBZ.out.size)))
 rcases HCV.out with rfl | ⟨rfl, hfv⟩
 ·go_wp2_with fail
  go_ret
  exact ⟨rfl, HBZ.out⟩
 rcases HCW.out with rfl | ⟨rfl, hfw⟩
 ·go_wp2_with fail
  go_ret
  exact ⟨rfl, HBZ.out⟩
 have HFV := Lib.hid hfv
 have HFW := Lib.hid hfw
 have HWV := Lib.hid hfv.wide
 have HWW := Lib.hid hfw.wide
 clear hfv hfw HCV HCW HG0
 go_upto_region 7 with (fail)
 go_cut [58] from 33 to 58 (fun v58 wc => v58 = .bool false ∧ Below wz.heap.size wz wc)
 case first =>
  refine wp_region_held_drew (S := fun W9 => Below wz.heap.size wz W9) (by kernel_rfl) (show Below wz.heap.size wz wz.drew from below_drewN (Below.refl _ _) 1) (fun ht => ?_)
  generalize wz.drew = wd at *
  refine wpAnyH_take (i := 0) (oi := ⟨some _, _, _, _, _, _⟩) (v := (.func (.func 11) #[] #[])) rfl (by kernel_rfl) (by kernel_rfl) (by kernel_rfl) (fun _ _ _ h => h) (Or.inl ⟨by rfl, ?_⟩) ht ?_
  ·intro W9 hSw
   go_simp
  try simp only [Act.put, List.setIfInBounds_toArray, List.set_cons_zero, List.set_cons_succ]
  refine wpAnyH_take (i := 1) (oi := ⟨some _, _, _, _, _, _⟩) (v := (.agg #[.int .i64 k_1, .bool k_2, .bool k_3, .string ⟨k_4.toArray⟩, .int .i64 k_5, .string ⟨k_6.toArray⟩, .slice k_7 k_8 k_9, .slice k_a k_b k_c])) rfl (by kernel_rfl) (by kernel_rfl) (by kernel_rfl) (fun _ _ _ h => h) (Or.inl ⟨by rfl, ?_⟩) ht ?_
  ·intro W9 hSw
   obtain ⟨b0, b1, b2, b3, b4, b5, b6, b7⟩ := (HBV.out.on hSw).eight
   have bl := (HBV.out.on hSw).lt
   go_simp
  try simp only [Act.put, List.setIfInBounds_toArray, List.set_cons_zero, List.set_cons_succ]
  refine wpAnyH_take (i := 3) (oi := ⟨some _, _, _, _, _, _⟩) (v := (.agg #[.int .i64 k_1, .bool k_2, .bool k_3, .string ⟨k_4.toArray⟩, .int .i64 k_5, .string ⟨k_6.toArray⟩, .slice k_7 k_8 k_9, .slice k_a k_b k_c])) rfl (by kernel_rfl) (by kernel_rfl) (by kernel_rfl) (fun _ _ _ h => h) (Or.inl ⟨by rfl, ?_⟩) ht ?_
  ·intro W9 hSw
   obtain ⟨b0, b1, b2, b3, b4, b5, b6, b7⟩ := (HBV.out.on hSw).eight
   have bl := (HBV.out.on hSw).lt
   go_simp
  try simp only [Act.put, List.setIfInBounds_toArray, List.set_cons_zero, List.set_cons_succ]
  refine wpAnyH_ready (rs := [2]) (by kernel_rfl) (by simp) ?_
  refine AllReadyH.cons (o := ⟨some _, _, _, _, _, _⟩) rfl (fun K hK => ?_) (AllReadyH.nil)
  go_simp
  refine (keySide_any Ow.kConst v (.agg #[.int .i64 k_1, .bool k_2, .bool k_3, .string ⟨k_4.toArray⟩, .int .i64 k_5, .string ⟨k_6.toArray⟩, .slice k_7 k_8 k_9, .slice k_a k_b k_c]) _ (In.keep (le_below ht) _ _ HXV.out)).mono ?_
  rintro e1 x1 ⟨g1, rfl, hk1, hb1⟩
  have hs := ht.trans (hb1.mono ht.size)
  have HK1 := Lib.hid hk1
  clear ht hb1 hk1
  go_wp2_with fail
  refine hK.out _ _ hs (fun ht => ?_)
  clear hK K hs
  try simp only [Act.put, List.setIfInBounds_toArray, List.set_cons_zero, List.set_cons_succ]
  refine wpAnyH_ready (rs := [4]) (by kernel_rfl) (by simp) ?_
  refine AllReadyH.cons (o := ⟨some _, _, _, _, _, _⟩) rfl (fun K hK => ?_) (AllReadyH.nil)
  go_simp
  refine (ownKey14 HO.out (HG.out _ ht) HK1.out HWV.out HWV.out (In.keep (le_below ht) _ _ HXV.out) (n := 0) (by rw [Ow.fails_const, same_refl]; rfl)).mono ?_
  rintro e2 x2 ⟨A2, c2, rfl, hb2⟩
  have hs := ht.trans (hb2.mono ht.size)
  clear ht hb2 HK1
  go_wp2_with fail
  refine hK.out _ _ hs (fun ht => ?_)
  clear hK K hs
  try simp only [Act.put, List.setIfInBounds_toArray, List.set_cons_zero, List.set_cons_succ]
  refine wpAnyH_take (i := 5) (oi := ⟨some _, _, _, _, _, _⟩) (v := (.int .i64 0)) rfl (by kernel_rfl) (by kernel_rfl) (by kernel_rfl) (fun _ _ _ h => h) (Or.inl ⟨by rfl, ?_⟩) ht ?_
  ·intro W9 hSw
   go_simp
  try simp only [Act.put, List.setIfInBounds_toArray, List.set_cons_zero, List.set_cons_succ]
  refine wpAnyH_take (i := 6) (oi := ⟨some _, _, _, _, _, _⟩) (v := (.bool false)) rfl (by kernel_rfl) (by kernel_rfl) (by kernel_rfl) (fun _ _ _ h => h) (Or.inl ⟨by rfl, ?_⟩) ht ?_
  ·intro W9 hSw
   go_simp
  try simp only [Act.put, List.setIfInBounds_toArray, List.set_cons_zero, List.set_cons_succ]
  refine wpAnyH_take (i := 7) (oi := ⟨some _, _, _, _, _, _⟩) (v := (.bool false)) rfl (by kernel_rfl) (by kernel_rfl) (by kernel_rfl) (fun _ _ _ h => h) (Or.inl ⟨by rfl, ?_⟩) ht ?_
  ·intro W9 hSw
   go_simp
  try simp only [Act.put, List.setIfInBounds_toArray, List.set_cons_zero, List.set_cons_succ]
  refine wpAnyH_take (i := 8) (oi := ⟨some _, _, _, _, _, _⟩) (v := (.func (.func 11) #[] #[])) rfl (by kernel_rfl) (by kernel_rfl) (by kernel_rfl) (fun _ _ _ h => h) (Or.inl ⟨by rfl, ?_⟩) ht ?_
  ·intro W9 hSw
   go_simp
  try simp only [Act.put, List.setIfInBounds_toArray, List.set_cons_zero, List.set_cons_succ]
  refine wpAnyH_take (i := 9) (oi := ⟨some _, _, _, _, _, _⟩) (v := (.agg #[.int .i64 m_1, .bool m_2, .bool m_3, .string ⟨m_4.toArray⟩, .int .i64 m_5, .string ⟨m_6.toArray⟩, .slice m_7 m_8 m_9, .slice m_a m_b m_c])) rfl (by kernel_rfl) (by kernel_rfl) (by kernel_rfl) (fun _ _ _ h => h) (Or.inl ⟨by rfl, ?_⟩) ht ?_
  ·intro W9 hSw
   obtain ⟨b0, b1, b2, b3, b4, b5, b6, b7⟩ := (HBW.out.on hSw).eight
   have bl := (HBW.out.on hSw).lt
   go_simp
  try simp only [Act.put, List.setIfInBounds_toArray, List.set_cons_zero, List.set_cons_succ]
  refine wpAnyH_take (i := 10) (oi := ⟨some _, _, _, _, _, _⟩) (v := (.agg #[.int .i64 k_1, .bool k_2, .bool k_3, .string ⟨k_4.toArray⟩, .int .i64 k_5, .string ⟨k_6.toArray⟩, .slice k_7 k_8 k_9, .slice k_a k_b k_c])) rfl (by kernel_rfl) (by kernel_rfl) (by kernel_rfl) (fun _ _ _ h => h) (Or.inl ⟨by rfl, ?_⟩) ht ?_
  ·intro W9 hSw
   obtain ⟨b0, b1, b2, b3, b4, b5, b6, b7⟩ := (HBV.out.on hSw).eight
   have bl := (HBV.out.on hSw).lt
   go_simp
  try simp only [Act.put, List.setIfInBounds_toArray, List.set_cons_zero, List.set_cons_succ]
  refine wpAnyH_take (i := 14) (oi := ⟨some _, _, _, _, _, _⟩) (v := (.agg #[.int .i64 k_1, .bool k_2, .bool k_3, .string ⟨k_4.toArray⟩, .int .i64 k_5, .string ⟨k_6.toArray⟩, .slice k_7 k_8 k_9, .slice k_a k_b k_c])) rfl (by kernel_rfl) (by kernel_rfl) (by kernel_rfl) (fun _ _ _ h => h) (Or.inl ⟨by rfl, ?_⟩) ht ?_
  ·intro W9 hSw
   obtain ⟨b0, b1, b2, b3, b4, b5, b6, b7⟩ := (HBV.out.on hSw).eight
   have bl := (HBV.out.on hSw).lt
   go_simp
  try simp only [Act.put, List.setIfInBounds_toArray, List.set_cons_zero, List.set_cons_succ]
  refine wpAnyH_ready (rs := [11]) (by kernel_rfl) (by simp) ?_
  refine AllReadyH.cons (o := ⟨some _, _, _, _, _, _⟩) rfl (fun K hK => ?_) (AllReadyH.nil)
  go_simp
  refine via14 (K := K) (fun W9 => Below wz.heap.size wz W9 ∧ SlL W9.cell? (some ⟨x2.heap.size, 0, none⟩) [y, v]) ⟨ht.alloc ht.size _, slL_two14 (Blk.new x2 31 _) (In.keep (le_below (ht.alloc ht.size _)) _ _ HXW.out) (In.keep (le_below (ht.alloc ht.size _)) _ _ HXV.out)⟩ ?_
  rintro y3 ⟨ht1, hsl⟩
  have HE := Lib.hid hsl
  clear hsl ht
  refine hK.out _ _ ht1 (fun ht => ?_)
  clear hK K ht1
  try simp only [Act.put, List.setIfInBounds_toArray, List.set_cons_zero, List.set_cons_succ]
  obtain ⟨ge, hge⟩ : ∃ g, g = x2.heap.size := ⟨_, rfl⟩
  rw [← hge] at HE ⊢
  clear hge
  refine wpAnyH_take (i := 12) (oi := ⟨some _, _, _, _, _, _⟩) (v := (.agg #[.int .i64 4, .bool false, .bool false, .string ⟨#[]⟩, .int .i64 0, .string ⟨#[]⟩, .slice (some ⟨ge, 0, none⟩) 2 2, .slice none 0 0])) rfl (by kernel_rfl) (by kernel_rfl) (by kernel_rfl) (fun _ _ _ h => h) (Or.inl ⟨by rfl, ?_⟩) ht ?_
  ·intro W9 hSw
   go_simp
  try simp only [Act.put, List.setIfInBounds_toArray, List.set_cons_zero, List.set_cons_succ]
  refine wpAnyH_ready (rs := [13]) (by kernel_rfl) (by simp) ?_
  refine AllReadyH.cons (o := ⟨some _, _, _, _, _, _⟩) rfl (fun K hK => ?_) (AllReadyH.nil)
  go_simp
  refine (keySide_any Ow.kEnum (.mk 4 false Nm.Num.zero [] [y, v] []) _ _ (arr_in14 (e := 2) (n := 2) HE.out rfl (Nat.le_refl _) (by unfold maxLen; omega))).mono ?_
  rintro e3 x3 ⟨g3, rfl, hk3, hb3⟩
  have hs := ht.trans (hb3.mono ht.size)
  have HK3 := Lib.hid hk3
  clear ht hb3 hk3
  go_wp2_with fail
  refine hK.out _ _ hs (fun ht => ?_)
  clear hK K hs
  try simp only [Act.put, List.setIfInBounds_toArray, List.set_cons_zero, List.set_cons_succ]
  refine wpAnyH_ready (rs := [15]) (by kernel_rfl) (by simp) ?_
  refine AllReadyH.cons (o := ⟨some _, _, _, _, _, _⟩) rfl (fun K hK => ?_) (AllReadyH.nil)
  go_simp
  refine (ownKey14 HO.out (HG.out _ ht) HK3.out (wide_two14 HFV.out HFW.out) HWV.out (In.keep (le_below ht) _ _ HXV.out) (n := 0) (by rw [Ow.fails_enum, show Ow.among (Ow.listOf (.mk 4 false Nm.Num.zero [] [y, v] [])) v = true by simp [Ow.among, Ow.listOf, same_refl]]; rfl)).mono ?_
  rintro e4 x4 ⟨A4, c4, rfl, hb4⟩
  have hs := ht.trans (hb4.mono ht.size)
  clear ht hb4 HK3
  go_wp2_with fail
  refine hK.out _ _ hs (fun ht => ?_)
  clear hK K hs
  try simp only [Act.put, List.setIfInBounds_toArray, List.set_cons_zero, List.set_cons_succ]
  refine wpAnyH_take (i := 16) (oi := ⟨some _, _, _, _, _, _⟩) (v := (.int .i64 0)) rfl (by kernel_rfl) (by kernel_rfl) (by kernel_rfl) (fun _ _ _ h => h) (Or.inl ⟨by rfl, ?_⟩) ht ?_
  ·intro W9 hSw
   go_simp
  try simp only [Act.put, List.setIfInBounds_toArray, List.set_cons_zero, List.set_cons_succ]
  refine wpAnyH_take (i := 17) (oi := ⟨some _, _, _, _, _, _⟩) (v := (.bool false)) rfl (by kernel_rfl) (by kernel_rfl) (by kernel_rfl) (fun _ _ _ h => h) (Or.inl ⟨by rfl, ?_⟩) ht ?_
  ·intro W9 hSw
   go_simp
  try simp only [Act.put, List.setIfInBounds_toArray, List.set_cons_zero, List.set_cons_succ]
  refine wpAnyH_take (i := 18) (oi := ⟨some _, _, _, _, _, _⟩) (v := (.bool false)) rfl (by kernel_rfl) (by kernel_rfl) (by kernel_rfl) (fun _ _ _ h => h) (Or.inl ⟨by rfl, ?_⟩) ht ?_
  ·intro W9 hSw
   go_simp
  try simp only [Act.put, List.setIfInBounds_toArray, List.set_cons_zero, List.set_cons_succ]
  refine wpAnyH_take (i := 19) (oi := ⟨some _, _, _, _, _, _⟩) (v := (.bool false)) rfl (by kernel_rfl) (by kernel_rfl) (by kernel_rfl) (fun _ _ _ h => h) (Or.inl ⟨by rfl, ?_⟩) ht ?_
  ·intro W9 hSw
   go_simp
  try simp only [Act.put, List.setIfInBounds_toArray, List.set_cons_zero, List.set_cons_succ]
  refine wpAnyH_take (i := 20) (oi := ⟨some _, _, _, _, _, _⟩) (v := (.agg #[.string ⟨#[]⟩, .bool false, .bool false, .slice none 0 0])) rfl (by kernel_rfl) (by kernel_rfl) (by kernel_rfl) (fun _ _ _ h => h) (Or.inl ⟨by rfl, ?_⟩) ht ?_
  ·intro W9 hSw
   go_simp
  try simp only [Act.put, List.setIfInBounds_toArray, List.set_cons_zero, List.set_cons_succ]
  refine wpAnyH_take (i := 21) (oi := ⟨some _, _, _, _, _, _⟩) (v := (.agg #[.int .i64 k_1, .bool k_2, .bool k_3, .string ⟨k_4.toArray⟩, .int .i64 k_5, .string ⟨k_6.toArray⟩, .slice k_7 k_8 k_9, .slice k_a k_b k_c])) rfl (by kernel_rfl) (by kernel_rfl) (by kernel_rfl) (fun _ _ _ h => h) (Or.inl ⟨by rfl, ?_⟩) ht ?_
  ·intro W9 hSw
   obtain ⟨b0, b1, b2, b3, b4, b5, b6, b7⟩ := (HBV.out.on hSw).eight
   have bl := (HBV.out.on hSw).lt
   go_simp
  try simp only [Act.put, List.setIfInBounds_toArray, List.set_cons_zero, List.set_cons_succ]
  refine wpAnyH_ready (rs := [22]) (by kernel_rfl) (by simp) ?_
  refine AllReadyH.cons (o := ⟨some _, _, _, _, _, _⟩) rfl (fun K hK => ?_) (AllReadyH.nil)
  go_simp
  refine (ownNone14 HO.out (HG.out _ ht) HWV.out (In.keep (le_below ht) _ _ HXV.out)).mono ?_
  rintro e5 x5 ⟨A5, c5, rfl, hb5⟩
  have hs := ht.trans (hb5.mono ht.size)
  clear ht hb5
  go_wp2_with fail
  refine hK.out _ _ hs (fun ht => ?_)
  clear hK K hs
  try simp only [Act.put, List.setIfInBounds_toArray, List.set_cons_zero, List.set_cons_succ]
  refine wpAnyH_take (i := 23) (oi := ⟨some _, _, _, _, _, _⟩) (v := (.int .i64 0)) rfl (by kernel_rfl) (by kernel_rfl) (by kernel_rfl) (fun _ _ _ h => h) (Or.inl ⟨by rfl, ?_⟩) ht ?_
  ·intro W9 hSw
   go_simp
  try simp only [Act.put, List.setIfInBounds_toArray, List.set_cons_zero, List.set_cons_succ]
  refine wpAnyH_take (i := 24) (oi := ⟨some _, _, _, _, _, _⟩) (v := (.bool false)) rfl (by kernel_rfl) (by kernel_rfl) (by kernel_rfl) (fun _ _ _ h => h) (Or.inl ⟨by rfl, ?_⟩) ht ?_
  ·intro W9 hSw
   go_simp
  try simp only [Act.put, List.setIfInBounds_toArray, List.set_cons_zero, List.set_cons_succ]
  refine wpAnyH_take (i := 25) (oi := ⟨some _, _, _, _, _, _⟩) (v := (.bool false)) rfl (by kernel_rfl) (by kernel_rfl) (by kernel_rfl) (fun _ _ _ h => h) (Or.inl ⟨by rfl, ?_⟩) ht ?_
  ·intro W9 hSw
   go_simp
  try simp only [Act.put, List.setIfInBounds_toArray, List.set_cons_zero, List.set_cons_succ]
  refine wpAnyH_done (by kernel_rfl) ?_ _
  have HB9 := Lib.hid ht
  clear ht
  go_wp2_with fail
  go_meet
  case rel => exact ⟨rfl, HB9.out⟩
 case rest =>
 obtain ⟨rfl, hb7⟩ := hcut
 obtain ⟨w7, hw7⟩ : ∃ W, W = wc := ⟨_, rfl⟩
 subst hw7
 have HB7 := Lib.hid hb7
 clear hb7
 go_upto_region 9 with (fail)
 go_cut [73] from 59 to 73 (fun v73 wc => v73 = .bool false ∧ Below wz.heap.size wz wc)
 case first =>
  cases hf : Ow.fails Ow.kConst v y
  ·have HF1 := Lib.hid (show 0 = if Ow.fails Ow.kConst v y = true then 1 else 0 by rw [hf]; rfl)
   have HF2 := Lib.hid (show 0 = if Ow.fails Ow.kConst y v = true then 1 else 0 by rw [← Ow.const_comm, hf]; rfl)
   clear hf
   refine wp_region_held_drew (S := fun W9 => Below wz.heap.size wz W9) (by kernel_rfl) (show Below wz.heap.size wz w7.drew from below_drewN HB7.out 1) (fun ht => ?_)
   generalize w7.drew = wd at *
   refine wpAnyH_take (i := 0) (oi := ⟨some _, _, _, _, _, _⟩) (v := (.func (.func 11) #[] #[])) rfl (by kernel_rfl) (by kernel_rfl) (by kernel_rfl) (fun _ _ _ h => h) (Or.inl ⟨by rfl, ?_⟩) ht ?_
   ·intro W9 hSw
    go_simp
   try simp only [Act.put, List.setIfInBounds_toArray, List.set_cons_zero, List.set_cons_succ]
   refine wpAnyH_take (i := 1) (oi := ⟨some _, _, _, _, _, _⟩) (v := (.agg #[.int .i64 k_1, .bool k_2, .bool k_3, .string ⟨k_4.toArray⟩, .int .i64 k_5, .string ⟨k_6.toArray⟩, .slice k_7 k_8 k_9, .slice k_a k_b k_c])) rfl (by kernel_rfl) (by kernel_rfl) (by kernel_rfl) (fun _ _ _ h => h) (Or.inl ⟨by rfl, ?_⟩) ht ?_
   ·intro W9 hSw
    obtain ⟨b0, b1, b2, b3, b4, b5, b6, b7⟩ := (HBV.out.on hSw).eight
    have bl := (HBV.out.on hSw).lt
    go_simp
   try simp only [Act.put, List.setIfInBounds_toArray, List.set_cons_zero, List.set_cons_succ]
   refine wpAnyH_take (i := 3) (oi := ⟨some _, _, _, _, _, _⟩) (v := (.agg #[.int .i64 m_1, .bool m_2, .bool m_3, .string ⟨m_4.toArray⟩, .int .i64 m_5, .string ⟨m_6.toArray⟩, .slice m_7 m_8 m_9, .slice m_a m_b m_c])) rfl (by kernel_rfl) (by kernel_rfl) (by kernel_rfl) (fun _ _ _ h => h) (Or.inl ⟨by rfl, ?_⟩) ht ?_
   ·intro W9 hSw
    obtain ⟨b0, b1, b2, b3, b4, b5, b6, b7⟩ := (HBW.out.on hSw).eight
    have bl := (HBW.out.on hSw).lt
    go_simp
   try simp only [Act.put, List.setIfInBounds_toArray, List.set_cons_zero, List.set_cons_succ]
   refine wpAnyH_take (i := 7) (oi := ⟨some _, _, _, _, _, _⟩) (v := (.func (.func 11) #[] #[])) rfl (by kernel_rfl) (by kernel_rfl) (by kernel_rfl) (fun _ _ _ h => h) (Or.inl ⟨by rfl, ?_⟩) ht ?_
   ·intro W9 hSw
    go_simp
   try simp only [Act.put, List.setIfInBounds_toArray, List.set_cons_zero, List.set_cons_succ]
   refine wpAnyH_take (i := 8) (oi := ⟨some _, _, _, _, _, _⟩) (v := (.agg #[.int .i64 m_1, .bool m_2, .bool m_3, .string ⟨m_4.toArray⟩, .int .i64 m_5, .string ⟨m_6.toArray⟩, .slice m_7 m_8 m_9, .slice m_a m_b m_c])) rfl (by kernel_rfl) (by kernel_rfl) (by kernel_rfl) (fun _ _ _ h => h) (Or.inl ⟨by rfl, ?_⟩) ht ?_
   ·intro W9 hSw
    obtain ⟨b0, b1, b2, b3, b4, b5, b6, b7⟩ := (HBW.out.on hSw).eight
    have bl := (HBW.out.on hSw).lt
    go_simp
   try simp only [Act.put, List.setIfInBounds_toArray, List.set_cons_zero, List.set_cons_succ]
   refine wpAnyH_take (i := 10) (oi := ⟨some _, _, _, _, _, _⟩) (v := (.agg #[.int .i64 k_1, .bool k_2, .bool k_3, .string ⟨k_4.toArray⟩, .int .i64 k_5, .string ⟨k_6.toArray⟩, .slice k_7 k_8 k_9, .slice k_a k_b k_c])) rfl (by kernel_rfl) (by kernel_rfl) (by kernel_rfl) (fun _ _ _ h => h) (Or.inl ⟨by rfl, ?_⟩) ht ?_
   ·intro W9 hSw
    obtain ⟨b0, b1, b2, b3, b4, b5, b6, b7⟩ := (HBV.out.on hSw).eight
    have bl := (HBV.out.on hSw).lt
    go_simp
   try simp only [Act.put, List.setIfInBounds_toArray, List.set_cons_zero, List.set_cons_succ]
   refine wpAnyH_ready (rs := [2]) (by kernel_rfl) (by simp) ?_
   refine AllReadyH.cons (o := ⟨some _, _, _, _, _, _⟩) rfl (fun K hK => ?_) (AllReadyH.nil)
   go_simp
   refine (keySide_any Ow.kConst v (.agg #[.int .i64 k_1, .bool k_2, .bool k_3, .string ⟨k_4.toArray⟩, .int .i64 k_5, .string ⟨k_6.toArray⟩, .slice k_7 k_8 k_9, .slice k_a k_b k_c]) _ (In.keep (le_below ht) _ _ HXV.out)).mono ?_
   rintro e6 x6 ⟨g6, rfl, hk6, hb6⟩
   have hs := ht.trans (hb6.mono ht.size)
   have HK6 := Lib.hid hk6
   clear ht hb6 hk6
   go_wp2_with fail
   refine hK.out _ _ hs (fun ht => ?_)
   clear hK K hs
   try simp only [Act.put, List.setIfInBounds_toArray, List.set_cons_zero, List.set_cons_succ]
   refine wpAnyH_ready (rs := [4]) (by kernel_rfl) (by simp) ?_
   refine AllReadyH.cons (o := ⟨some _, _, _, _, _, _⟩) rfl (fun K hK => ?_) (AllReadyH.nil)
   go_simp
   refine (ownKey14 HO.out (HG.out _ ht) HK6.out HWV.out HWW.out (In.keep (le_below ht) _ _ HXW.out) (n := 0) HF1.out).mono ?_
   rintro e7 x7 ⟨A7, c7, rfl, hb7⟩
   have hs := ht.trans (hb7.mono ht.size)
   clear ht hb7 HK6
   go_wp2_with fail
   refine hK.out _ _ hs (fun ht => ?_)
   clear hK K hs
   try simp only [Act.put, List.setIfInBounds_toArray, List.set_cons_zero, List.set_cons_succ]
   refine wpAnyH_take (i := 5) (oi := ⟨some _, _, _, _, _, _⟩) (v := (.int .i64 0)) rfl (by kernel_rfl) (by kernel_rfl) (by kernel_rfl) (fun _ _ _ h => h) (Or.inl ⟨by rfl, ?_⟩) ht ?_
   ·intro W9 hSw
    go_simp
   try simp only [Act.put, List.setIfInBounds_toArray, List.set_cons_zero, List.set_cons_succ]
   refine wpAnyH_take (i := 6) (oi := ⟨some _, _, _, _, _, _⟩) (v := (.bool true)) rfl (by kernel_rfl) (by kernel_rfl) (by kernel_rfl) (fun _ _ _ h => h) (Or.inl ⟨by rfl, ?_⟩) ht ?_
   ·intro W9 hSw
    go_simp
   try simp only [Act.put, List.setIfInBounds_toArray, List.set_cons_zero, List.set_cons_succ]
   refine wpAnyH_ready (rs := [9]) (by kernel_rfl) (by simp) ?_
   refine AllReadyH.cons (o := ⟨some _, _, _, _, _, _⟩) rfl (fun K hK => ?_) (AllReadyH.nil)
   go_simp
   refine (keySide_any Ow.kConst y (.agg #[.int .i64 m_1, .bool m_2, .bool m_3, .string ⟨m_4.toArray⟩, .int .i64 m_5, .string ⟨m_6.toArray⟩, .slice m_7 m_8 m_9, .slice m_a m_b m_c]) _ (In.keep (le_below ht) _ _ HXW.out)).mono ?_
   rintro e8 x8 ⟨g8, rfl, hk8, hb8⟩
   have hs := ht.trans (hb8.mono ht.size)
   have HK8 := Lib.hid hk8
   clear ht hb8 hk8
   go_wp2_with fail
   refine hK.out _ _ hs (fun ht => ?_)
   clear hK K hs
   try simp only [Act.put, List.setIfInBounds_toArray, List.set_cons_zero, List.set_cons_succ]
   refine wpAnyH_ready (rs := [11]) (by kernel_rfl) (by simp) ?_
   refine AllReadyH.cons (o := ⟨some _, _, _, _, _, _⟩) rfl (fun K hK => ?_) (AllReadyH.nil)
   go_simp
   refine (ownKey14 HO.out (HG.out _ ht) HK8.out HWW.out HWV.out (In.keep (le_below ht) _ _ HXV.out) (n := 0) HF2.out).mono ?_
   rintro e9 x9 ⟨A9, c9, rfl, hb9⟩
   have hs := ht.trans (hb9.mono ht.size)
   clear ht hb9 HK8
   go_wp2_with fail
   refine hK.out _ _ hs (fun ht => ?_)
   clear hK K hs
   try simp only [Act.put, List.setIfInBounds_toArray, List.set_cons_zero, List.set_cons_succ]
   refine wpAnyH_take (i := 12) (oi := ⟨some _, _, _, _, _, _⟩) (v := (.int .i64 0)) rfl (by kernel_rfl) (by kernel_rfl) (by kernel_rfl) (fun _ _ _ h => h) (Or.inl ⟨by rfl, ?_⟩) ht ?_
   ·intro W9 hSw
    go_simp
   try simp only [Act.put, List.setIfInBounds_toArray, List.set_cons_zero, List.set_cons_succ]
   refine wpAnyH_take (i := 13) (oi := ⟨some _, _, _, _, _, _⟩) (v := (.bool true)) rfl (by kernel_rfl) (by kernel_rfl) (by kernel_rfl) (fun _ _ _ h => h) (Or.inl ⟨by rfl, ?_⟩) ht ?_
   ·intro W9 hSw
    go_simp
   try simp only [Act.put, List.setIfInBounds_toArray, List.set_cons_zero, List.set_cons_succ]
   refine wpAnyH_take (i := 14) (oi := ⟨some _, _, _, _, _, _⟩) (v := (.bool false)) rfl (by kernel_rfl) (by kernel_rfl) (by kernel_rfl) (fun _ _ _ h => h) (Or.inl ⟨by rfl, ?_⟩) ht ?_
   ·intro W9 hSw
    go_simp
   try simp only [Act.put, List.setIfInBounds_toArray, List.set_cons_zero, List.set_cons_succ]
   refine wpAnyH_done (by kernel_rfl) ?_ _
   have HB9 := Lib.hid ht
   clear ht
   go_wp2_with fail
   go_meet
   case rel => exact ⟨rfl, HB9.out⟩
  ·have HF1 := Lib.hid (show 1 = if Ow.fails Ow.kConst v y = true then 1 else 0 by rw [hf]; rfl)
   have HF2 := Lib.hid (show 1 = if Ow.fails Ow.kConst y v = true then 1 else 0 by rw [← Ow.const_comm, hf]; rfl)
   clear hf
   refine wp_region_held_drew (S := fun W9 => Below wz.heap.size wz W9) (by kernel_rfl) (show Below wz.heap.size wz w7.drew from below_drewN HB7.out 1) (fun ht => ?_)
   generalize w7.drew = wd at *
   refine wpAnyH_take (i := 0) (oi := ⟨some _, _, _, _, _, _⟩) (v := (.func (.func 11) #[] #[])) rfl (by kernel_rfl) (by kernel_rfl) (by kernel_rfl) (fun _ _ _ h => h) (Or.inl ⟨by rfl, ?_⟩) ht ?_
   ·intro W9 hSw
    go_simp
   try simp only [Act.put, List.setIfInBounds_toArray, List.set_cons_zero, List.set_cons_succ]
   refine wpAnyH_take (i := 1) (oi := ⟨some _, _, _, _, _, _⟩) (v := (.agg #[.int .i64 k_1, .bool k_2, .bool k_3, .string ⟨k_4.toArray⟩, .int .i64 k_5, .string ⟨k_6.toArray⟩, .slice k_7 k_8 k_9, .slice k_a k_b k_c])) rfl (by kernel_rfl) (by kernel_rfl) (by kernel_rfl) (fun _ _ _ h => h) (Or.inl ⟨by rfl, ?_⟩) ht ?_
   ·intro W9 hSw
    obtain ⟨b0, b1, b2, b3, b4, b5, b6, b7⟩ := (HBV.out.on hSw).eight
    have bl := (HBV.out.on hSw).lt
    go_simp
   try simp only [Act.put, List.setIfInBounds_toArray, List.set_cons_zero, List.set_cons_succ]
   refine wpAnyH_take (i := 3) (oi := ⟨some _, _, _, _, _, _⟩) (v := (.agg #[.int .i64 m_1, .bool m_2, .bool m_3, .string ⟨m_4.toArray⟩, .int .i64 m_5, .string ⟨m_6.toArray⟩, .slice m_7 m_8 m_9, .slice m_a m_b m_c])) rfl (by kernel_rfl) (by kernel_rfl) (by kernel_rfl) (fun _ _ _ h => h) (Or.inl ⟨by rfl, ?_⟩) ht ?_
   ·intro W9 hSw
    obtain ⟨b0, b1, b2, b3, b4, b5, b6, b7⟩ := (HBW.out.on hSw).eight
    have bl := (HBW.out.on hSw).lt
    go_simp
   try simp only [Act.put, List.setIfInBounds_toArray, List.set_cons_zero, List.set_cons_succ]
   refine wpAnyH_take (i := 7) (oi := ⟨some _, _, _, _, _, _⟩) (v := (.func (.func 11) #[] #[])) rfl (by kernel_rfl) (by kernel_rfl) (by kernel_rfl) (fun _ _ _ h => h) (Or.inl ⟨by rfl, ?_⟩) ht ?_
   ·intro W9 hSw
    go_simp
   try simp only [Act.put, List.setIfInBounds_toArray, List.set_cons_zero, List.set_cons_succ]
   refine wpAnyH_take (i := 8) (oi := ⟨some _, _, _, _, _, _⟩) (v := (.agg #[.int .i64 m_1, .bool m_2, .bool m_3, .string ⟨m_4.toArray⟩, .int .i64 m_5, .string ⟨m_6.toArray⟩, .slice m_7 m_8 m_9, .slice m_a m_b m_c])) rfl (by kernel_rfl) (by kernel_rfl) (by kernel_rfl) (fun _ _ _ h => h) (Or.inl ⟨by rfl, ?_⟩) ht ?_
   ·intro W9 hSw
    obtain ⟨b0, b1, b2, b3, b4, b5, b6, b7⟩ := (HBW.out.on hSw).eight
    have bl := (HBW.out.on hSw).lt
    go_simp
   try simp only [Act.put, List.setIfInBounds_toArray, List.set_cons_zero, List.set_cons_succ]
   refine wpAnyH_take (i := 10) (oi := ⟨some _, _, _, _, _, _⟩) (v := (.agg #[.int .i64 k_1, .bool k_2, .bool k_3, .string ⟨k_4.toArray⟩, .int .i64 k_5, .string ⟨k_6.toArray⟩, .slice k_7 k_8 k_9, .slice k_a k_b k_c])) rfl (by kernel_rfl) (by kernel_rfl) (by kernel_rfl) (fun _ _ _ h => h) (Or.inl ⟨by rfl, ?_⟩) ht ?_
   ·intro W9 hSw
    obtain ⟨b0, b1, b2, b3, b4, b5, b6, b7⟩ := (HBV.out.on hSw).eight
    have bl := (HBV.out.on hSw).lt
    go_simp
   try simp only [Act.put, List.setIfInBounds_toArray, List.set_cons_zero, List.set_cons_succ]
   refine wpAnyH_ready (rs := [2]) (by kernel_rfl) (by simp) ?_
   refine AllReadyH.cons (o := ⟨some _, _, _, _, _, _⟩) rfl (fun K hK => ?_) (AllReadyH.nil)
   go_simp
   refine (keySide_any Ow.kConst v (.agg #[.int .i64 k_1, .bool k_2, .bool k_3, .string ⟨k_4.toArray⟩, .int .i64 k_5, .string ⟨k_6.toArray⟩, .slice k_7 k_8 k_9, .slice k_a k_b k_c]) _ (In.keep (le_below ht) _ _ HXV.out)).mono ?_
   rintro e10 x10 ⟨g10, rfl, hk10, hb10⟩
   have hs := ht.trans (hb10.mono ht.size)
   have HK10 := Lib.hid hk10
   clear ht hb10 hk10
   go_wp2_with fail
   refine hK.out _ _ hs (fun ht => ?_)
   clear hK K hs
   try simp only [Act.put, List.setIfInBounds_toArray, List.set_cons_zero, List.set_cons_succ]
   refine wpAnyH_ready (rs := [4]) (by kernel_rfl) (by simp) ?_
   refine AllReadyH.cons (o := ⟨some _, _, _, _, _, _⟩) rfl (fun K hK => ?_) (AllReadyH.nil)
   go_simp
   refine (ownKey14 HO.out (HG.out _ ht) HK10.out HWV.out HWW.out (In.keep (le_below ht) _ _ HXW.out) (n := 1) HF1.out).mono ?_
   rintro e11 x11 ⟨A11, c11, rfl, hb11⟩
   have hs := ht.trans (hb11.mono ht.size)
   clear ht hb11 HK10
   go_wp2_with fail
   refine hK.out _ _ hs (fun ht => ?_)
   clear hK K hs
   try simp only [Act.put, List.setIfInBounds_toArray, List.set_cons_zero, List.set_cons_succ]
   refine wpAnyH_take (i := 5) (oi := ⟨some _, _, _, _, _, _⟩) (v := (.int .i64 1)) rfl (by kernel_rfl) (by kernel_rfl) (by kernel_rfl) (fun _ _ _ h => h) (Or.inl ⟨by rfl, ?_⟩) ht ?_
   ·intro W9 hSw
    go_simp
   try simp only [Act.put, List.setIfInBounds_toArray, List.set_cons_zero, List.set_cons_succ]
   refine wpAnyH_take (i := 6) (oi := ⟨some _, _, _, _, _, _⟩) (v := (.bool false)) rfl (by kernel_rfl) (by kernel_rfl) (by kernel_rfl) (fun _ _ _ h => h) (Or.inl ⟨by rfl, ?_⟩) ht ?_
   ·intro W9 hSw
    go_simp
   try simp only [Act.put, List.setIfInBounds_toArray, List.set_cons_zero, List.set_cons_succ]
   refine wpAnyH_ready (rs := [9]) (by kernel_rfl) (by simp) ?_
   refine AllReadyH.cons (o := ⟨some _, _, _, _, _, _⟩) rfl (fun K hK => ?_) (AllReadyH.nil)
   go_simp
   refine (keySide_any Ow.kConst y (.agg #[.int .i64 m_1, .bool m_2, .bool m_3, .string ⟨m_4.toArray⟩, .int .i64 m_5, .string ⟨m_6.toArray⟩, .slice m_7 m_8 m_9, .slice m_a m_b m_c]) _ (In.keep (le_below ht) _ _ HXW.out)).mono ?_
   rintro e12 x12 ⟨g12, rfl, hk12, hb12⟩
   have hs := ht.trans (hb12.mono ht.size)
   have HK12 := Lib.hid hk12
   clear ht hb12 hk12
   go_wp2_with fail
   refine hK.out _ _ hs (fun ht => ?_)
   clear hK K hs
   try simp only [Act.put, List.setIfInBounds_toArray, List.set_cons_zero, List.set_cons_succ]
   refine wpAnyH_ready (rs := [11]) (by kernel_rfl) (by simp) ?_
   refine AllReadyH.cons (o := ⟨some _, _, _, _, _, _⟩) rfl (fun K hK => ?_) (AllReadyH.nil)
   go_simp
   refine (ownKey14 HO.out (HG.out _ ht) HK12.out HWW.out HWV.out (In.keep (le_below ht) _ _ HXV.out) (n := 1) HF2.out).mono ?_
   rintro e13 x13 ⟨A13, c13, rfl, hb13⟩
   have hs := ht.trans (hb13.mono ht.size)
   clear ht hb13 HK12
   go_wp2_with fail
   refine hK.out _ _ hs (fun ht => ?_)
   clear hK K hs
   try simp only [Act.put, List.setIfInBounds_toArray, List.set_cons_zero, List.set_cons_succ]
   refine wpAnyH_take (i := 12) (oi := ⟨some _, _, _, _, _, _⟩) (v := (.int .i64 1)) rfl (by kernel_rfl) (by kernel_rfl) (by kernel_rfl) (fun _ _ _ h => h) (Or.inl ⟨by rfl, ?_⟩) ht ?_
   ·intro W9 hSw
    go_simp
   try simp only [Act.put, List.setIfInBounds_toArray, List.set_cons_zero, List.set_cons_succ]
   refine wpAnyH_take (i := 13) (oi := ⟨some _, _, _, _, _, _⟩) (v := (.bool false)) rfl (by kernel_rfl) (by kernel_rfl) (by kernel_rfl) (fun _ _ _ h => h) (Or.inl ⟨by rfl, ?_⟩) ht ?_
   ·intro W9 hSw
    go_simp
   try simp only [Act.put, List.setIfInBounds_toArray, List.set_cons_zero, List.set_cons_succ]
   refine wpAnyH_take (i := 14) (oi := ⟨some _, _, _, _, _, _⟩) (v := (.bool false)) rfl (by kernel_rfl) (by kernel_rfl) (by kernel_rfl) (fun _ _ _ h => h) (Or.inl ⟨by rfl, ?_⟩) ht ?_
   ·intro W9 hSw
    go_simp
   try simp only [Act.put, List.setIfInBounds_toArray, List.set_cons_zero, List.set_cons_succ]
   refine wpAnyH_done (by kernel_rfl) ?_ _
   have HB9 := Lib.hid ht
   clear ht
   go_wp2_with fail
   go_meet
   case rel => exact ⟨rfl, HB9.out⟩
 case rest =>
 obtain ⟨rfl, hb9⟩ := hcut
 obtain ⟨w9, hw9⟩ : ∃ W, W = wc := ⟨_, rfl⟩
 subst hw9
 clear HB7
 have HB9 := Lib.hid hb9
 clear hb9
 obtain ⟨hv1, hv2, hv3⟩ := cells14 HXV.out
 obtain ⟨hw1, _, _⟩ := cells14 HXW.out
 have HVL := Lib.hid (SlL.keep (le_below HB9.out) hv3)
 clear hv3
 obtain ⟨b0, b1, b2, b3, b4, b5, b6, b7⟩ := (HBV.out.on HB9.out).eight
 have bl := (HBV.out.on HB9.out).lt
 obtain ⟨c0, c1, c2, c3, c4, c5, c6, c7⟩ := (HBW.out.on HB9.out).eight
 have cl := (HBW.out.on HB9.out).lt
 by_cases h2 : k_1 = 2
 ·by_cases k2 : m_1 = 2
  ·have HKV := Lib.hid (hv1.trans h2)
   have HKW := Lib.hid (hw1.trans k2)
   have H2 := Lib.hid h2
   clear hv1 hw1 hv2 HVL
   go_upto_region 12 with (fail)
   clear h2 k2 b0 b1 b2 b3 b4 b5 b6 b7 bl c0 c1 c2 c3 c4 c5 c6 c7 cl
   have HSD := Lib.hid (Ow.sides HFV.out.1 HFW.out.1 HKV.out HKW.out)
   clear HKV HKW
   have hways : (Ow.fails Ow.kMin y v = false ∧ Ow.fails Ow.kMax y v = false ∧ Ow.fails Ow.kConst y v = false) ∨ (Ow.fails Ow.kMin y v = true ∧ Ow.fails Ow.kMax y v = false ∧ Ow.fails Ow.kConst y v = true) ∨ (Ow.fails Ow.kMin y v = false ∧ Ow.fails Ow.kMax y v = true ∧ Ow.fails Ow.kConst y v = true) := by
    have HDS := HSD.out
    generalize Ow.fails Ow.kMin y v = lo at *
    generalize Ow.fails Ow.kMax y v = hi at *
    generalize Ow.fails Ow.kConst y v = sm at *
    revert HDS
    clear HSD
    cases lo <;> cases hi <;> cases sm <;> simp
   clear HSD
   rcases hways with ⟨f1, f2, f3⟩ | ⟨f1, f2, f3⟩ | ⟨f1, f2, f3⟩
   ·skip
    have HNMin := Lib.hid (show 0 = if Ow.fails Ow.kMin y v = true then 1 else 0 by rw [f1]; rfl)
    have HNMax := Lib.hid (show 0 = if Ow.fails Ow.kMax y v = true then 1 else 0 by rw [f2]; rfl)
    have HNnst := Lib.hid (show 0 = if Ow.fails Ow.kConst y v = true then 1 else 0 by rw [f3]; rfl)
    clear f1 f2 f3
    refine wp_region_held_drew (S := fun W9 => Below wz.heap.size wz W9) (by kernel_rfl) (show Below wz.heap.size wz w9.drew from below_drewN HB9.out 1) (fun ht => ?_)
    generalize w9.drew = wd at *
    refine wpAnyH_take (i := 0) (oi := ⟨some _, _, _, _, _, _⟩) (v := (.func (.func 11) #[] #[])) rfl (by kernel_rfl) (by kernel_rfl) (by kernel_rfl) (fun _ _ _ h => h) (Or.inl ⟨by rfl, ?_⟩) ht ?_
    ·intro W9 hSw
     go_simp
    try simp only [Act.put, List.setIfInBounds_toArray, List.set_cons_zero, List.set_cons_succ]
    refine wpAnyH_take (i := 1) (oi := ⟨some _, _, _, _, _, _⟩) (v := (.agg #[.int .i64 m_1, .bool m_2, .bool m_3, .string ⟨m_4.toArray⟩, .int .i64 m_5, .string ⟨m_6.toArray⟩, .slice m_7 m_8 m_9, .slice m_a m_b m_c])) rfl (by kernel_rfl) (by kernel_rfl) (by kernel_rfl) (fun _ _ _ h => h) (Or.inl ⟨by rfl, ?_⟩) ht ?_
    ·intro W9 hSw
     obtain ⟨b0, b1, b2, b3, b4, b5, b6, b7⟩ := (HBW.out.on hSw).eight
     have bl := (HBW.out.on hSw).lt
     go_simp
    try simp only [Act.put, List.setIfInBounds_toArray, List.set_cons_zero, List.set_cons_succ]
    refine wpAnyH_take (i := 3) (oi := ⟨some _, _, _, _, _, _⟩) (v := (.agg #[.int .i64 k_1, .bool k_2, .bool k_3, .string ⟨k_4.toArray⟩, .int .i64 k_5, .string ⟨k_6.toArray⟩, .slice k_7 k_8 k_9, .slice k_a k_b k_c])) rfl (by kernel_rfl) (by kernel_rfl) (by kernel_rfl) (fun _ _ _ h => h) (Or.inl ⟨by rfl, ?_⟩) ht ?_
    ·intro W9 hSw
     obtain ⟨b0, b1, b2, b3, b4, b5, b6, b7⟩ := (HBV.out.on hSw).eight
     have bl := (HBV.out.on hSw).lt
     go_simp
    try simp only [Act.put, List.setIfInBounds_toArray, List.set_cons_zero, List.set_cons_succ]
    refine wpAnyH_ready (rs := [2]) (by kernel_rfl) (by simp) ?_
    refine AllReadyH.cons (o := ⟨some _, _, _, _, _, _⟩) rfl (fun K hK => ?_) (AllReadyH.nil)
    go_simp
    refine (keySide_any Ow.kMin y (.agg #[.int .i64 m_1, .bool m_2, .bool m_3, .string ⟨m_4.toArray⟩, .int .i64 m_5, .string ⟨m_6.toArray⟩, .slice m_7 m_8 m_9, .slice m_a m_b m_c]) _ (In.keep (le_below ht) _ _ HXW.out)).mono ?_
    rintro e14 x14 ⟨g14, rfl, hk14, hb14⟩
    have hs := ht.trans (hb14.mono ht.size)
    have HK14 := Lib.hid hk14
    clear ht hb14 hk14
    go_wp2_with fail
    refine hK.out _ _ hs (fun ht => ?_)
    clear hK K hs
    try simp only [Act.put, List.setIfInBounds_toArray, List.set_cons_zero, List.set_cons_succ]
    refine wpAnyH_ready (rs := [4]) (by kernel_rfl) (by simp) ?_
    refine AllReadyH.cons (o := ⟨some _, _, _, _, _, _⟩) rfl (fun K hK => ?_) (AllReadyH.nil)
    go_simp
    refine (ownKey14 HO.out (HG.out _ ht) HK14.out HWW.out HWV.out (In.keep (le_below ht) _ _ HXV.out) (n := 0) HNMin.out).mono ?_
    rintro e15 x15 ⟨A15, c15, rfl, hb15⟩
    have hs := ht.trans (hb15.mono ht.size)
    clear ht hb15 HK14
    go_wp2_with fail
    refine hK.out _ _ hs (fun ht => ?_)
    clear hK K hs
    try simp only [Act.put, List.setIfInBounds_toArray, List.set_cons_zero, List.set_cons_succ]
    refine wpAnyH_take (i := 5) (oi := ⟨some _, _, _, _, _, _⟩) (v := (.int .i64 0)) rfl (by kernel_rfl) (by kernel_rfl) (by kernel_rfl) (fun _ _ _ h => h) (Or.inl ⟨by rfl, ?_⟩) ht ?_
    ·intro W9 hSw
     go_simp
    try simp only [Act.put, List.setIfInBounds_toArray, List.set_cons_zero, List.set_cons_succ]
    refine wpAnyH_take (i := 6) (oi := ⟨some _, _, _, _, _, _⟩) (v := (.bool true)) rfl (by kernel_rfl) (by kernel_rfl) (by kernel_rfl) (fun _ _ _ h => h) (Or.inl ⟨by rfl, ?_⟩) ht ?_
    ·intro W9 hSw
     go_simp
    try simp only [Act.put, List.setIfInBounds_toArray, List.set_cons_zero, List.set_cons_succ]
    refine wpAnyH_take (i := 7) (oi := ⟨some _, _, _, _, _, _⟩) (v := (.bool true)) rfl (by kernel_rfl) (by kernel_rfl) (by kernel_rfl) (fun _ _ _ h => h) (Or.inl ⟨by rfl, ?_⟩) ht ?_
    ·intro W9 hSw
     go_simp
    try simp only [Act.put, List.setIfInBounds_toArray, List.set_cons_zero, List.set_cons_succ]
    refine wpAnyH_done (by kernel_rfl) ?_ _
    have HB115 := Lib.hid ht
    clear ht
    go_upto_region 13 with (fail)
    refine wp_region_held_drew (S := fun W9 => Below wz.heap.size wz W9) (by kernel_rfl) (show Below wz.heap.size wz x15.drew from below_drewN HB115.out 1) (fun ht => ?_)
    generalize x15.drew = wd at *
    refine wpAnyH_take (i := 0) (oi := ⟨some _, _, _, _, _, _⟩) (v := (.func (.func 11) #[] #[])) rfl (by kernel_rfl) (by kernel_rfl) (by kernel_rfl) (fun _ _ _ h => h) (Or.inl ⟨by rfl, ?_⟩) ht ?_
    ·intro W9 hSw
     go_simp
    try simp only [Act.put, List.setIfInBounds_toArray, List.set_cons_zero, List.set_cons_succ]
    refine wpAnyH_take (i := 1) (oi := ⟨some _, _, _, _, _, _⟩) (v := (.agg #[.int .i64 m_1, .bool m_2, .bool m_3, .string ⟨m_4.toArray⟩, .int .i64 m_5, .string ⟨m_6.toArray⟩, .slice m_7 m_8 m_9, .slice m_a m_b m_c])) rfl (by kernel_rfl) (by kernel_rfl) (by kernel_rfl) (fun _ _ _ h => h) (Or.inl ⟨by rfl, ?_⟩) ht ?_
    ·intro W9 hSw
     obtain ⟨b0, b1, b2, b3, b4, b5, b6, b7⟩ := (HBW.out.on hSw).eight
     have bl := (HBW.out.on hSw).lt
     go_simp
    try simp only [Act.put, List.setIfInBounds_toArray, List.set_cons_zero, List.set_cons_succ]
    refine wpAnyH_take (i := 3) (oi := ⟨some _, _, _, _, _, _⟩) (v := (.agg #[.int .i64 k_1, .bool k_2, .bool k_3, .string ⟨k_4.toArray⟩, .int .i64 k_5, .string ⟨k_6.toArray⟩, .slice k_7 k_8 k_9, .slice k_a k_b k_c])) rfl (by kernel_rfl) (by kernel_rfl) (by kernel_rfl) (fun _ _ _ h => h) (Or.inl ⟨by rfl, ?_⟩) ht ?_
    ·intro W9 hSw
     obtain ⟨b0, b1, b2, b3, b4, b5, b6, b7⟩ := (HBV.out.on hSw).eight
     have bl := (HBV.out.on hSw).lt
     go_simp
    try simp only [Act.put, List.setIfInBounds_toArray, List.set_cons_zero, List.set_cons_succ]
    refine wpAnyH_ready (rs := [2]) (by kernel_rfl) (by simp) ?_
    refine AllReadyH.cons (o := ⟨some _, _, _, _, _, _⟩) rfl (fun K hK => ?_) (AllReadyH.nil)
    go_simp
    refine (keySide_any Ow.kMax y (.agg #[.int .i64 m_1, .bool m_2, .bool m_3, .string ⟨m_4.toArray⟩, .int .i64 m_5, .string ⟨m_6.toArray⟩, .slice m_7 m_8 m_9, .slice m_a m_b m_c]) _ (In.keep (le_below ht) _ _ HXW.out)).mono ?_
    rintro e16 x16 ⟨g16, rfl, hk16, hb16⟩
    have hs := ht.trans (hb16.mono ht.size)
    have HK16 := Lib.hid hk16
    clear ht hb16 hk16
    go_wp2_with fail
    refine hK.out _ _ hs (fun ht => ?_)
    clear hK K hs
    try simp only [Act.put, List.setIfInBounds_toArray, List.set_cons_zero, List.set_cons_succ]
    refine wpAnyH_ready (rs := [4]) (by kernel_rfl) (by simp) ?_
    refine AllReadyH.cons (o := ⟨some _, _, _, _, _, _⟩) rfl (fun K hK => ?_) (AllReadyH.nil)
    go_simp
    refine (ownKey14 HO.out (HG.out _ ht) HK16.out HWW.out HWV.out (In.keep (le_below ht) _ _ HXV.out) (n := 0) HNMax.out).mono ?_
    rintro e17 x17 ⟨A17, c17, rfl, hb17⟩
    have hs := ht.trans (hb17.mono ht.size)
    clear ht hb17 HK16
    go_wp2_with fail
    refine hK.out _ _ hs (fun ht => ?_)
    clear hK K hs
    try simp only [Act.put, List.setIfInBounds_toArray, List.set_cons_zero, List.set_cons_succ]
    refine wpAnyH_take (i := 5) (oi := ⟨some _, _, _, _, _, _⟩) (v := (.int .i64 0)) rfl (by kernel_rfl) (by kernel_rfl) (by kernel_rfl) (fun _ _ _ h => h) (Or.inl ⟨by rfl, ?_⟩) ht ?_
    ·intro W9 hSw
     go_simp
    try simp only [Act.put, List.setIfInBounds_toArray, List.set_cons_zero, List.set_cons_succ]
    refine wpAnyH_take (i := 6) (oi := ⟨some _, _, _, _, _, _⟩) (v := (.bool true)) rfl (by kernel_rfl) (by kernel_rfl) (by kernel_rfl) (fun _ _ _ h => h) (Or.inl ⟨by rfl, ?_⟩) ht ?_
    ·intro W9 hSw
     go_simp
    try simp only [Act.put, List.setIfInBounds_toArray, List.set_cons_zero, List.set_cons_succ]
    refine wpAnyH_take (i := 7) (oi := ⟨some _, _, _, _, _, _⟩) (v := (.bool true)) rfl (by kernel_rfl) (by kernel_rfl) (by kernel_rfl) (fun _ _ _ h => h) (Or.inl ⟨by rfl, ?_⟩) ht ?_
    ·intro W9 hSw
     go_simp
    try simp only [Act.put, List.setIfInBounds_toArray, List.set_cons_zero, List.set_cons_succ]
    refine wpAnyH_done (by kernel_rfl) ?_ _
    have HB117 := Lib.hid ht
    clear ht
    go_upto_region 14 with (fail)
    refine wp_region_held_drew (S := fun W9 => Below wz.heap.size wz W9) (by kernel_rfl) (show Below wz.heap.size wz x17.drew from below_drewN HB117.out 1) (fun ht => ?_)
    generalize x17.drew = wd at *
    refine wpAnyH_take (i := 0) (oi := ⟨some _, _, _, _, _, _⟩) (v := (.func (.func 11) #[] #[])) rfl (by kernel_rfl) (by kernel_rfl) (by kernel_rfl) (fun _ _ _ h => h) (Or.inl ⟨by rfl, ?_⟩) ht ?_
    ·intro W9 hSw
     go_simp
    try simp only [Act.put, List.setIfInBounds_toArray, List.set_cons_zero, List.set_cons_succ]
    refine wpAnyH_take (i := 1) (oi := ⟨some _, _, _, _, _, _⟩) (v := (.agg #[.int .i64 m_1, .bool m_2, .bool m_3, .string ⟨m_4.toArray⟩, .int .i64 m_5, .string ⟨m_6.toArray⟩, .slice m_7 m_8 m_9, .slice m_a m_b m_c])) rfl (by kernel_rfl) (by kernel_rfl) (by kernel_rfl) (fun _ _ _ h => h) (Or.inl ⟨by rfl, ?_⟩) ht ?_
    ·intro W9 hSw
     obtain ⟨b0, b1, b2, b3, b4, b5, b6, b7⟩ := (HBW.out.on hSw).eight
     have bl := (HBW.out.on hSw).lt
     go_simp
    try simp only [Act.put, List.setIfInBounds_toArray, List.set_cons_zero, List.set_cons_succ]
    refine wpAnyH_take (i := 3) (oi := ⟨some _, _, _, _, _, _⟩) (v := (.agg #[.int .i64 k_1, .bool k_2, .bool k_3, .string ⟨k_4.toArray⟩, .int .i64 k_5, .string ⟨k_6.toArray⟩, .slice k_7 k_8 k_9, .slice k_a k_b k_c])) rfl (by kernel_rfl) (by kernel_rfl) (by kernel_rfl) (fun _ _ _ h => h) (Or.inl ⟨by rfl, ?_⟩) ht ?_
    ·intro W9 hSw
     obtain ⟨b0, b1, b2, b3, b4, b5, b6, b7⟩ := (HBV.out.on hSw).eight
     have bl := (HBV.out.on hSw).lt
     go_simp
    try simp only [Act.put, List.setIfInBounds_toArray, List.set_cons_zero, List.set_cons_succ]
    refine wpAnyH_ready (rs := [2]) (by kernel_rfl) (by simp) ?_
    refine AllReadyH.cons (o := ⟨some _, _, _, _, _, _⟩) rfl (fun K hK => ?_) (AllReadyH.nil)
    go_simp
    refine (keySide_any Ow.kConst y (.agg #[.int .i64 m_1, .bool m_2, .bool m_3, .string ⟨m_4.toArray⟩, .int .i64 m_5, .string ⟨m_6.toArray⟩, .slice m_7 m_8 m_9, .slice m_a m_b m_c]) _ (In.keep (le_below ht) _ _ HXW.out)).mono ?_
    rintro e18 x18 ⟨g18, rfl, hk18, hb18⟩
    have hs := ht.trans (hb18.mono ht.size)
    have HK18 := Lib.hid hk18
    clear ht hb18 hk18
    go_wp2_with fail
    refine hK.out _ _ hs (fun ht => ?_)
    clear hK K hs
    try simp only [Act.put, List.setIfInBounds_toArray, List.set_cons_zero, List.set_cons_succ]
    refine wpAnyH_ready (rs := [4]) (by kernel_rfl) (by simp) ?_
    refine AllReadyH.cons (o := ⟨some _, _, _, _, _, _⟩) rfl (fun K hK => ?_) (AllReadyH.nil)
    go_simp
    refine (ownKey14 HO.out (HG.out _ ht) HK18.out HWW.out HWV.out (In.keep (le_below ht) _ _ HXV.out) (n := 0) HNnst.out).mono ?_
    rintro e19 x19 ⟨A19, c19, rfl, hb19⟩
    have hs := ht.trans (hb19.mono ht.size)
    clear ht hb19 HK18
    go_wp2_with fail
    refine hK.out _ _ hs (fun ht => ?_)
    clear hK K hs
    try simp only [Act.put, List.setIfInBounds_toArray, List.set_cons_zero, List.set_cons_succ]
    refine wpAnyH_take (i := 5) (oi := ⟨some _, _, _, _, _, _⟩) (v := (.int .i64 0)) rfl (by kernel_rfl) (by kernel_rfl) (by kernel_rfl) (fun _ _ _ h => h) (Or.inl ⟨by rfl, ?_⟩) ht ?_
    ·intro W9 hSw
     go_simp
    try simp only [Act.put, List.setIfInBounds_toArray, List.set_cons_zero, List.set_cons_succ]
    refine wpAnyH_take (i := 6) (oi := ⟨some _, _, _, _, _, _⟩) (v := (.bool true)) rfl (by kernel_rfl) (by kernel_rfl) (by kernel_rfl) (fun _ _ _ h => h) (Or.inl ⟨by rfl, ?_⟩) ht ?_
    ·intro W9 hSw
     go_simp
    try simp only [Act.put, List.setIfInBounds_toArray, List.set_cons_zero, List.set_cons_succ]
    refine wpAnyH_take (i := 7) (oi := ⟨some _, _, _, _, _, _⟩) (v := (.bool true)) rfl (by kernel_rfl) (by kernel_rfl) (by kernel_rfl) (fun _ _ _ h => h) (Or.inl ⟨by rfl, ?_⟩) ht ?_
    ·intro W9 hSw
     go_simp
    try simp only [Act.put, List.setIfInBounds_toArray, List.set_cons_zero, List.set_cons_succ]
    refine wpAnyH_done (by kernel_rfl) ?_ _
    have HB119 := Lib.hid ht
    clear ht
    have h2 := H2.out
    obtain ⟨b0, b1, b2, b3, b4, b5, b6, b7⟩ := (HBV.out.on HB119.out).eight
    have bl := (HBV.out.on HB119.out).lt
    obtain ⟨c0, c1, c2, c3, c4, c5, c6, c7⟩ := (HBW.out.on HB119.out).eight
    have cl := (HBW.out.on HB119.out).lt
    go_wp2_with fail
    go_ret
    exact ⟨rfl, HBZ.out.trans (HB119.out.mono HBZ.out.size)⟩
   ·skip
    have HNMin := Lib.hid (show 1 = if Ow.fails Ow.kMin y v = true then 1 else 0 by rw [f1]; rfl)
    have HNMax := Lib.hid (show 0 = if Ow.fails Ow.kMax y v = true then 1 else 0 by rw [f2]; rfl)
    have HNnst := Lib.hid (show 1 = if Ow.fails Ow.kConst y v = true then 1 else 0 by rw [f3]; rfl)
    clear f1 f2 f3
    refine wp_region_held_drew (S := fun W9 => Below wz.heap.size wz W9) (by kernel_rfl) (show Below wz.heap.size wz w9.drew from below_drewN HB9.out 1) (fun ht => ?_)
    generalize w9.drew = wd at *
    refine wpAnyH_take (i := 0) (oi := ⟨some _, _, _, _, _, _⟩) (v := (.func (.func 11) #[] #[])) rfl (by kernel_rfl) (by kernel_rfl) (by kernel_rfl) (fun _ _ _ h => h) (Or.inl ⟨by rfl, ?_⟩) ht ?_
    ·intro W9 hSw
     go_simp
    try simp only [Act.put, List.setIfInBounds_toArray, List.set_cons_zero, List.set_cons_succ]
    refine wpAnyH_take (i := 1) (oi := ⟨some _, _, _, _, _, _⟩) (v := (.agg #[.int .i64 m_1, .bool m_2, .bool m_3, .string ⟨m_4.toArray⟩, .int .i64 m_5, .string ⟨m_6.toArray⟩, .slice m_7 m_8 m_9, .slice m_a m_b m_c])) rfl (by kernel_rfl) (by kernel_rfl) (by kernel_rfl) (fun _ _ _ h => h) (Or.inl ⟨by rfl, ?_⟩) ht ?_
    ·intro W9 hSw
     obtain ⟨b0, b1, b2, b3, b4, b5, b6, b7⟩ := (HBW.out.on hSw).eight
     have bl := (HBW.out.on hSw).lt
     go_simp
    try simp only [Act.put, List.setIfInBounds_toArray, List.set_cons_zero, List.set_cons_succ]
    refine wpAnyH_take (i := 3) (oi := ⟨some _, _, _, _, _, _⟩) (v := (.agg #[.int .i64 k_1, .bool k_2, .bool k_3, .string ⟨k_4.toArray⟩, .int .i64 k_5, .string ⟨k_6.toArray⟩, .slice k_7 k_8 k_9, .slice k_a k_b k_c])) rfl (by kernel_rfl) (by kernel_rfl) (by kernel_rfl) (fun _ _ _ h => h) (Or.inl ⟨by rfl, ?_⟩) ht ?_
    ·intro W9 hSw
     obtain ⟨b0, b1, b2, b3, b4, b5, b6, b7⟩ := (HBV.out.on hSw).eight
     have bl := (HBV.out.on hSw).lt
     go_simp
    try simp only [Act.put, List.setIfInBounds_toArray, List.set_cons_zero, List.set_cons_succ]
    refine wpAnyH_ready (rs := [2]) (by kernel_rfl) (by simp) ?_
    refine AllReadyH.cons (o := ⟨some _, _, _, _, _, _⟩) rfl (fun K hK => ?_) (AllReadyH.nil)
    go_simp
    refine (keySide_any Ow.kMin y (.agg #[.int .i64 m_1, .bool m_2, .bool m_3, .string ⟨m_4.toArray⟩, .int .i64 m_5, .string ⟨m_6.toArray⟩, .slice m_7 m_8 m_9, .slice m_a m_b m_c]) _ (In.keep (le_below ht) _ _ HXW.out)).mono ?_
    rintro e20 x20 ⟨g20, rfl, hk20, hb20⟩
    have hs := ht.trans (hb20.mono ht.size)
    have HK20 := Lib.hid hk20
    clear ht hb20 hk20
    go_wp2_with fail
    refine hK.out _ _ hs (fun ht => ?_)
    clear hK K hs
    try simp only [Act.put, List.setIfInBounds_toArray, List.set_cons_zero, List.set_cons_succ]
    refine wpAnyH_ready (rs := [4]) (by kernel_rfl) (by simp) ?_
    refine AllReadyH.cons (o := ⟨some _, _, _, _, _, _⟩) rfl (fun K hK => ?_) (AllReadyH.nil)
    go_simp
    refine (ownKey14 HO.out (HG.out _ ht) HK20.out HWW.out HWV.out (In.keep (le_below ht) _ _ HXV.out) (n := 1) HNMin.out).mono ?_
    rintro e21 x21 ⟨A21, c21, rfl, hb21⟩
    have hs := ht.trans (hb21.mono ht.size)
    clear ht hb21 HK20
    go_wp2_with fail
    refine hK.out _ _ hs (fun ht => ?_)
    clear hK K hs
    try simp only [Act.put, List.setIfInBounds_toArray, List.set_cons_zero, List.set_cons_succ]
    refine wpAnyH_take (i := 5) (oi := ⟨some _, _, _, _, _, _⟩) (v := (.int .i64 1)) rfl (by kernel_rfl) (by kernel_rfl) (by kernel_rfl) (fun _ _ _ h => h) (Or.inl ⟨by rfl, ?_⟩) ht ?_
    ·intro W9 hSw
     go_simp
    try simp only [Act.put, List.setIfInBounds_toArray, List.set_cons_zero, List.set_cons_succ]
    refine wpAnyH_take (i := 6) (oi := ⟨some _, _, _, _, _, _⟩) (v := (.bool false)) rfl (by kernel_rfl) (by kernel_rfl) (by kernel_rfl) (fun _ _ _ h => h) (Or.inl ⟨by rfl, ?_⟩) ht ?_
    ·intro W9 hSw
     go_simp
    try simp only [Act.put, List.setIfInBounds_toArray, List.set_cons_zero, List.set_cons_succ]
    refine wpAnyH_take (i := 7) (oi := ⟨some _, _, _, _, _, _⟩) (v := (.bool false)) rfl (by kernel_rfl) (by kernel_rfl) (by kernel_rfl) (fun _ _ _ h => h) (Or.inl ⟨by rfl, ?_⟩) ht ?_
    ·intro W9 hSw
     go_simp
    try simp only [Act.put, List.setIfInBounds_toArray, List.set_cons_zero, List.set_cons_succ]
    refine wpAnyH_done (by kernel_rfl) ?_ _
    have HB121 := Lib.hid ht
    clear ht
    go_upto_region 13 with (fail)
    refine wp_region_held_drew (S := fun W9 => Below wz.heap.size wz W9) (by kernel_rfl) (show Below wz.heap.size wz x21.drew from below_drewN HB121.out 1) (fun ht => ?_)
    generalize x21.drew = wd at *
    refine wpAnyH_take (i := 0) (oi := ⟨some _, _, _, _, _, _⟩) (v := (.func (.func 11) #[] #[])) rfl (by kernel_rfl) (by kernel_rfl) (by kernel_rfl) (fun _ _ _ h => h) (Or.inl ⟨by rfl, ?_⟩) ht ?_
    ·intro W9 hSw
     go_simp
    try simp only [Act.put, List.setIfInBounds_toArray, List.set_cons_zero, List.set_cons_succ]
    refine wpAnyH_take (i := 1) (oi := ⟨some _, _, _, _, _, _⟩) (v := (.agg #[.int .i64 m_1, .bool m_2, .bool m_3, .string ⟨m_4.toArray⟩, .int .i64 m_5, .string ⟨m_6.toArray⟩, .slice m_7 m_8 m_9, .slice m_a m_b m_c])) rfl (by kernel_rfl) (by kernel_rfl) (by kernel_rfl) (fun _ _ _ h => h) (Or.inl ⟨by rfl, ?_⟩) ht ?_
    ·intro W9 hSw
     obtain ⟨b0, b1, b2, b3, b4, b5, b6, b7⟩ := (HBW.out.on hSw).eight
     have bl := (HBW.out.on hSw).lt
     go_simp
    try simp only [Act.put, List.setIfInBounds_toArray, List.set_cons_zero, List.set_cons_succ]
    refine wpAnyH_take (i := 3) (oi := ⟨some _, _, _, _, _, _⟩) (v := (.agg #[.int .i64 k_1, .bool k_2, .bool k_3, .string ⟨k_4.toArray⟩, .int .i64 k_5, .string ⟨k_6.toArray⟩, .slice k_7 k_8 k_9, .slice k_a k_b k_c])) rfl (by kernel_rfl) (by kernel_rfl) (by kernel_rfl) (fun _ _ _ h => h) (Or.inl ⟨by rfl, ?_⟩) ht ?_
    ·intro W9 hSw
     obtain ⟨b0, b1, b2, b3, b4, b5, b6, b7⟩ := (HBV.out.on hSw).eight
     have bl := (HBV.out.on hSw).lt
     go_simp
    try simp only [Act.put, List.setIfInBounds_toArray, List.set_cons_zero, List.set_cons_succ]
    refine wpAnyH_ready (rs := [2]) (by kernel_rfl) (by simp) ?_
    refine AllReadyH.cons (o := ⟨some _, _, _, _, _, _⟩) rfl (fun K hK => ?_) (AllReadyH.nil)
    go_simp
    refine (keySide_any Ow.kMax y (.agg #[.int .i64 m_1, .bool m_2, .bool m_3, .string ⟨m_4.toArray⟩, .int .i64 m_5, .string ⟨m_6.toArray⟩, .slice m_7 m_8 m_9, .slice m_a m_b m_c]) _ (In.keep (le_below ht) _ _ HXW.out)).mono ?_
    rintro e22 x22 ⟨g22, rfl, hk22, hb22⟩
    have hs := ht.trans (hb22.mono ht.size)
    have HK22 := Lib.hid hk22
    clear ht hb22 hk22
    go_wp2_with fail
    refine hK.out _ _ hs (fun ht => ?_)
    clear hK K hs
    try simp only [Act.put, List.setIfInBounds_toArray, List.set_cons_zero, List.set_cons_succ]
    refine wpAnyH_ready (rs := [4]) (by kernel_rfl) (by simp) ?_
    refine AllReadyH.cons (o := ⟨some _, _, _, _, _, _⟩) rfl (fun K hK => ?_) (AllReadyH.nil)
    go_simp
    refine (ownKey14 HO.out (HG.out _ ht) HK22.out HWW.out HWV.out (In.keep (le_below ht) _ _ HXV.out) (n := 0) HNMax.out).mono ?_
    rintro e23 x23 ⟨A23, c23, rfl, hb23⟩
    have hs := ht.trans (hb23.mono ht.size)
    clear ht hb23 HK22
    go_wp2_with fail
    refine hK.out _ _ hs (fun ht => ?_)
    clear hK K hs
    try simp only [Act.put, List.setIfInBounds_toArray, List.set_cons_zero, List.set_cons_succ]
    refine wpAnyH_take (i := 5) (oi := ⟨some _, _, _, _, _, _⟩) (v := (.int .i64 0)) rfl (by kernel_rfl) (by kernel_rfl) (by kernel_rfl) (fun _ _ _ h => h) (Or.inl ⟨by rfl, ?_⟩) ht ?_
    ·intro W9 hSw
     go_simp
    try simp only [Act.put, List.setIfInBounds_toArray, List.set_cons_zero, List.set_cons_succ]
    refine wpAnyH_take (i := 6) (oi := ⟨some _, _, _, _, _, _⟩) (v := (.bool true)) rfl (by kernel_rfl) (by kernel_rfl) (by kernel_rfl) (fun _ _ _ h => h) (Or.inl ⟨by rfl, ?_⟩) ht ?_
    ·intro W9 hSw
     go_simp
    try simp only [Act.put, List.setIfInBounds_toArray, List.set_cons_zero, List.set_cons_succ]
    refine wpAnyH_take (i := 7) (oi := ⟨some _, _, _, _, _, _⟩) (v := (.bool true)) rfl (by kernel_rfl) (by kernel_rfl) (by kernel_rfl) (fun _ _ _ h => h) (Or.inl ⟨by rfl, ?_⟩) ht ?_
    ·intro W9 hSw
     go_simp
    try simp only [Act.put, List.setIfInBounds_toArray, List.set_cons_zero, List.set_cons_succ]
    refine wpAnyH_done (by kernel_rfl) ?_ _
    have HB123 := Lib.hid ht
    clear ht
    go_upto_region 14 with (fail)
    refine wp_region_held_drew (S := fun W9 => Below wz.heap.size wz W9) (by kernel_rfl) (show Below wz.heap.size wz x23.drew from below_drewN HB123.out 1) (fun ht => ?_)
    generalize x23.drew = wd at *
    refine wpAnyH_take (i := 0) (oi := ⟨some _, _, _, _, _, _⟩) (v := (.func (.func 11) #[] #[])) rfl (by kernel_rfl) (by kernel_rfl) (by kernel_rfl) (fun _ _ _ h => h) (Or.inl ⟨by rfl, ?_⟩) ht ?_
    ·intro W9 hSw
     go_simp
    try simp only [Act.put, List.setIfInBounds_toArray, List.set_cons_zero, List.set_cons_succ]
    refine wpAnyH_take (i := 1) (oi := ⟨some _, _, _, _, _, _⟩) (v := (.agg #[.int .i64 m_1, .bool m_2, .bool m_3, .string ⟨m_4.toArray⟩, .int .i64 m_5, .string ⟨m_6.toArray⟩, .slice m_7 m_8 m_9, .slice m_a m_b m_c])) rfl (by kernel_rfl) (by kernel_rfl) (by kernel_rfl) (fun _ _ _ h => h) (Or.inl ⟨by rfl, ?_⟩) ht ?_
    ·intro W9 hSw
     obtain ⟨b0, b1, b2, b3, b4, b5, b6, b7⟩ := (HBW.out.on hSw).eight
     have bl := (HBW.out.on hSw).lt
     go_simp
    try simp only [Act.put, List.setIfInBounds_toArray, List.set_cons_zero, List.set_cons_succ]
    refine wpAnyH_take (i := 3) (oi := ⟨some _, _, _, _, _, _⟩) (v := (.agg #[.int .i64 k_1, .bool k_2, .bool k_3, .string ⟨k_4.toArray⟩, .int .i64 k_5, .string ⟨k_6.toArray⟩, .slice k_7 k_8 k_9, .slice k_a k_b k_c])) rfl (by kernel_rfl) (by kernel_rfl) (by kernel_rfl) (fun _ _ _ h => h) (Or.inl ⟨by rfl, ?_⟩) ht ?_
    ·intro W9 hSw
     obtain ⟨b0, b1, b2, b3, b4, b5, b6, b7⟩ := (HBV.out.on hSw).eight
     have bl := (HBV.out.on hSw).lt
     go_simp
    try simp only [Act.put, List.setIfInBounds_toArray, List.set_cons_zero, List.set_cons_succ]
    refine wpAnyH_ready (rs := [2]) (by kernel_rfl) (by simp) ?_
    refine AllReadyH.cons (o := ⟨some _, _, _, _, _, _⟩) rfl (fun K hK => ?_) (AllReadyH.nil)
    go_simp
    refine (keySide_any Ow.kConst y (.agg #[.int .i64 m_1, .bool m_2, .bool m_3, .string ⟨m_4.toArray⟩, .int .i64 m_5, .string ⟨m_6.toArray⟩, .slice m_7 m_8 m_9, .slice m_a m_b m_c]) _ (In.keep (le_below ht) _ _ HXW.out)).mono ?_
    rintro e24 x24 ⟨g24, rfl, hk24, hb24⟩
    have hs := ht.trans (hb24.mono ht.size)
    have HK24 := Lib.hid hk24
    clear ht hb24 hk24
    go_wp2_with fail
    refine hK.out _ _ hs (fun ht => ?_)
    clear hK K hs
    try simp only [Act.put, List.setIfInBounds_toArray, List.set_cons_zero, List.set_cons_succ]
    refine wpAnyH_ready (rs := [4]) (by kernel_rfl) (by simp) ?_
    refine AllReadyH.cons (o := ⟨some _, _, _, _, _, _⟩) rfl (fun K hK => ?_) (AllReadyH.nil)
    go_simp
    refine (ownKey14 HO.out (HG.out _ ht) HK24.out HWW.out HWV.out (In.keep (le_below ht) _ _ HXV.out) (n := 1) HNnst.out).mono ?_
    rintro e25 x25 ⟨A25, c25, rfl, hb25⟩
    have hs := ht.trans (hb25.mono ht.size)
    clear ht hb25 HK24
    go_wp2_with fail
    refine hK.out _ _ hs (fun ht => ?_)
    clear hK K hs
    try simp only [Act.put, List.setIfInBounds_toArray, List.set_cons_zero, List.set_cons_succ]
    refine wpAnyH_take (i := 5) (oi := ⟨some _, _, _, _, _, _⟩) (v := (.int .i64 1)) rfl (by kernel_rfl) (by kernel_rfl) (by kernel_rfl) (fun _ _ _ h => h) (Or.inl ⟨by rfl, ?_⟩) ht ?_
    ·intro W9 hSw
     go_simp
    try simp only [Act.put, List.setIfInBounds_toArray, List.set_cons_zero, List.set_cons_succ]
    refine wpAnyH_take (i := 6) (oi := ⟨some _, _, _, _, _, _⟩) (v := (.bool false)) rfl (by kernel_rfl) (by kernel_rfl) (by kernel_rfl) (fun _ _ _ h => h) (Or.inl ⟨by rfl, ?_⟩) ht ?_
    ·intro W9 hSw
     go_simp
    try simp only [Act.put, List.setIfInBounds_toArray, List.set_cons_zero, List.set_cons_succ]
    refine wpAnyH_take (i := 7) (oi := ⟨some _, _, _, _, _, _⟩) (v := (.bool false)) rfl (by kernel_rfl) (by kernel_rfl) (by kernel_rfl) (fun _ _ _ h => h) (Or.inl ⟨by rfl, ?_⟩) ht ?_
    ·intro W9 hSw
     go_simp
    try simp only [Act.put, List.setIfInBounds_toArray, List.set_cons_zero, List.set_cons_succ]
    refine wpAnyH_done (by kernel_rfl) ?_ _
    have HB125 := Lib.hid ht
    clear ht
    have h2 := H2.out
    obtain ⟨b0, b1, b2, b3, b4, b5, b6, b7⟩ := (HBV.out.on HB125.out).eight
    have bl := (HBV.out.on HB125.out).lt
    obtain ⟨c0, c1, c2, c3, c4, c5, c6, c7⟩ := (HBW.out.on HB125.out).eight
    have cl := (HBW.out.on HB125.out).lt
    go_wp2_with fail
    go_ret
    exact ⟨rfl, HBZ.out.trans (HB125.out.mono HBZ.out.size)⟩
   ·skip
    have HNMin := Lib.hid (show 0 = if Ow.fails Ow.kMin y v = true then 1 else 0 by rw [f1]; rfl)
    have HNMax := Lib.hid (show 1 = if Ow.fails Ow.kMax y v = true then 1 else 0 by rw [f2]; rfl)
    have HNnst := Lib.hid (show 1 = if Ow.fails Ow.kConst y v = true then 1 else 0 by rw [f3]; rfl)
    clear f1 f2 f3
    refine wp_region_held_drew (S := fun W9 => Below wz.heap.size wz W9) (by kernel_rfl) (show Below wz.heap.size wz w9.drew from below_drewN HB9.out 1) (fun ht => ?_)
    generalize w9.drew = wd at *
    refine wpAnyH_take (i := 0) (oi := ⟨some _, _, _, _, _, _⟩) (v := (.func (.func 11) #[] #[])) rfl (by kernel_rfl) (by kernel_rfl) (by kernel_rfl) (fun _ _ _ h => h) (Or.inl ⟨by rfl, ?_⟩) ht ?_
    ·intro W9 hSw
     go_simp
    try simp only [Act.put, List.setIfInBounds_toArray, List.set_cons_zero, List.set_cons_succ]
    refine wpAnyH_take (i := 1) (oi := ⟨some _, _, _, _, _, _⟩) (v := (.agg #[.int .i64 m_1, .bool m_2, .bool m_3, .string ⟨m_4.toArray⟩, .int .i64 m_5, .string ⟨m_6.toArray⟩, .slice m_7 m_8 m_9, .slice m_a m_b m_c])) rfl (by kernel_rfl) (by kernel_rfl) (by kernel_rfl) (fun _ _ _ h => h) (Or.inl ⟨by rfl, ?_⟩) ht ?_
    ·intro W9 hSw
     obtain ⟨b0, b1, b2, b3, b4, b5, b6, b7⟩ := (HBW.out.on hSw).eight
     have bl := (HBW.out.on hSw).lt
     go_simp
    try simp only [Act.put, List.setIfInBounds_toArray, List.set_cons_zero, List.set_cons_succ]
    refine wpAnyH_take (i := 3) (oi := ⟨some _, _, _, _, _, _⟩) (v := (.agg #[.int .i64 k_1, .bool k_2, .bool k_3, .string ⟨k_4.toArray⟩, .int .i64 k_5, .string ⟨k_6.toArray⟩, .slice k_7 k_8 k_9, .slice k_a k_b k_c])) rfl (by kernel_rfl) (by kernel_rfl) (by kernel_rfl) (fun _ _ _ h => h) (Or.inl ⟨by rfl, ?_⟩) ht ?_
    ·intro W9 hSw
     obtain ⟨b0, b1, b2, b3, b4, b5, b6, b7⟩ := (HBV.out.on hSw).eight
     have bl := (HBV.out.on hSw).lt
     go_simp
    try simp only [Act.put, List.setIfInBounds_toArray, List.set_cons_zero, List.set_cons_succ]
    refine wpAnyH_ready (rs := [2]) (by kernel_rfl) (by simp) ?_
    refine AllReadyH.cons (o := ⟨some _, _, _, _, _, _⟩) rfl (fun K hK => ?_) (AllReadyH.nil)
    go_simp
    refine (keySide_any Ow.kMin y (.agg #[.int .i64 m_1, .bool m_2, .bool m_3, .string ⟨m_4.toArray⟩, .int .i64 m_5, .string ⟨m_6.toArray⟩, .slice m_7 m_8 m_9, .slice m_a m_b m_c]) _ (In.keep (le_below ht) _ _ HXW.out)).mono ?_
    rintro e26 x26 ⟨g26, rfl, hk26, hb26⟩
    have hs := ht.trans (hb26.mono ht.size)
    have HK26 := Lib.hid hk26
    clear ht hb26 hk26
    go_wp2_with fail
    refine hK.out _ _ hs (fun ht => ?_)
    clear hK K hs
    try simp only [Act.put, List.setIfInBounds_toArray, List.set_cons_zero, List.set_cons_succ]
    refine wpAnyH_ready (rs := [4]) (by kernel_rfl) (by simp) ?_
    refine AllReadyH.cons (o := ⟨some _, _, _, _, _, _⟩) rfl (fun K hK => ?_) (AllReadyH.nil)
    go_simp
    refine (ownKey14 HO.out (HG.out _ ht) HK26.out HWW.out HWV.out (In.keep (le_below ht) _ _ HXV.out) (n := 0) HNMin.out).mono ?_
    rintro e27 x27 ⟨A27, c27, rfl, hb27⟩
    have hs := ht.trans (hb27.mono ht.size)
    clear ht hb27 HK26
    go_wp2_with fail
    refine hK.out _ _ hs (fun ht => ?_)
    clear hK K hs
    try simp only [Act.put, List.setIfInBounds_toArray, List.set_cons_zero, List.set_cons_succ]
    refine wpAnyH_take (i := 5) (oi := ⟨some _, _, _, _, _, _⟩) (v := (.int .i64 0)) rfl (by kernel_rfl) (by kernel_rfl) (by kernel_rfl) (fun _ _ _ h => h) (Or.inl ⟨by rfl, ?_⟩) ht ?_
    ·intro W9 hSw
     go_simp
    try simp only [Act.put, List.setIfInBounds_toArray, List.set_cons_zero, List.set_cons_succ]
    refine wpAnyH_take (i := 6) (oi := ⟨some _, _, _, _, _, _⟩) (v := (.bool true)) rfl (by kernel_rfl) (by kernel_rfl) (by kernel_rfl) (fun _ _ _ h => h) (Or.inl ⟨by rfl, ?_⟩) ht ?_
    ·intro W9 hSw
     go_simp
    try simp only [Act.put, List.setIfInBounds_toArray, List.set_cons_zero, List.set_cons_succ]
    refine wpAnyH_take (i := 7) (oi := ⟨some _, _, _, _, _, _⟩) (v := (.bool true)) rfl (by kernel_rfl) (by kernel_rfl) (by kernel_rfl) (fun _ _ _ h => h) (Or.inl ⟨by rfl, ?_⟩) ht ?_
    ·intro W9 hSw
     go_simp
    try simp only [Act.put, List.setIfInBounds_toArray, List.set_cons_zero, List.set_cons_succ]
    refine wpAnyH_done (by kernel_rfl) ?_ _
    have HB127 := Lib.hid ht
    clear ht
    go_upto_region 13 with (fail)
    refine wp_region_held_drew (S := fun W9 => Below wz.heap.size wz W9) (by kernel_rfl) (show Below wz.heap.size wz x27.drew from below_drewN HB127.out 1) (fun ht => ?_)
    generalize x27.drew = wd at *
    refine wpAnyH_take (i := 0) (oi := ⟨some _, _, _, _, _, _⟩) (v := (.func (.func 11) #[] #[])) rfl (by kernel_rfl) (by kernel_rfl) (by kernel_rfl) (fun _ _ _ h => h) (Or.inl ⟨by rfl, ?_⟩) ht ?_
    ·intro W9 hSw
     go_simp
    try simp only [Act.put, List.setIfInBounds_toArray, List.set_cons_zero, List.set_cons_succ]
    refine wpAnyH_take (i := 1) (oi := ⟨some _, _, _, _, _, _⟩) (v := (.agg #[.int .i64 m_1, .bool m_2, .bool m_3, .string ⟨m_4.toArray⟩, .int .i64 m_5, .string ⟨m_6.toArray⟩, .slice m_7 m_8 m_9, .slice m_a m_b m_c])) rfl (by kernel_rfl) (by kernel_rfl) (by kernel_rfl) (fun _ _ _ h => h) (Or.inl ⟨by rfl, ?_⟩) ht ?_
    ·intro W9 hSw
     obtain ⟨b0, b1, b2, b3, b4, b5, b6, b7⟩ := (HBW.out.on hSw).eight
     have bl := (HBW.out.on hSw).lt
     go_simp
    try simp only [Act.put, List.setIfInBounds_toArray, List.set_cons_zero, List.set_cons_succ]
    refine wpAnyH_take (i := 3) (oi := ⟨some _, _, _, _, _, _⟩) (v := (.agg #[.int .i64 k_1, .bool k_2, .bool k_3, .string ⟨k_4.toArray⟩, .int .i64 k_5, .string ⟨k_6.toArray⟩, .slice k_7 k_8 k_9, .slice k_a k_b k_c])) rfl (by kernel_rfl) (by kernel_rfl) (by kernel_rfl) (fun _ _ _ h => h) (Or.inl ⟨by rfl, ?_⟩) ht ?_
    ·intro W9 hSw
     obtain ⟨b0, b1, b2, b3, b4, b5, b6, b7⟩ := (HBV.out.on hSw).eight
     have bl := (HBV.out.on hSw).lt
     go_simp
    try simp only [Act.put, List.setIfInBounds_toArray, List.set_cons_zero, List.set_cons_succ]
    refine wpAnyH_ready (rs := [2]) (by kernel_rfl) (by simp) ?_
    refine AllReadyH.cons (o := ⟨some _, _, _, _, _, _⟩) rfl (fun K hK => ?_) (AllReadyH.nil)
    go_simp
    refine (keySide_any Ow.kMax y (.agg #[.int .i64 m_1, .bool m_2, .bool m_3, .string ⟨m_4.toArray⟩, .int .i64 m_5, .string ⟨m_6.toArray⟩, .slice m_7 m_8 m_9, .slice m_a m_b m_c]) _ (In.keep (le_below ht) _ _ HXW.out)).mono ?_
    rintro e28 x28 ⟨g28, rfl, hk28, hb28⟩
    have hs := ht.trans (hb28.mono ht.size)
    have HK28 := Lib.hid hk28
    clear ht hb28 hk28
    go_wp2_with fail
    refine hK.out _ _ hs (fun ht => ?_)
    clear hK K hs
    try simp only [Act.put, List.setIfInBounds_toArray, List.set_cons_zero, List.set_cons_succ]
    refine wpAnyH_ready (rs := [4]) (by kernel_rfl) (by simp) ?_
    refine AllReadyH.cons (o := ⟨some _, _, _, _, _, _⟩) rfl (fun K hK => ?_) (AllReadyH.nil)
    go_simp
    refine (ownKey14 HO.out (HG.out _ ht) HK28.out HWW.out HWV.out (In.keep (le_below ht) _ _ HXV.out) (n := 1) HNMax.out).mono ?_
    rintro e29 x29 ⟨A29, c29, rfl, hb29⟩
    have hs := ht.trans (hb29.mono ht.size)
    clear ht hb29 HK28
    go_wp2_with fail
    refine hK.out _ _ hs (fun ht => ?_)
    clear hK K hs
    try simp only [Act.put, List.setIfInBounds_toArray, List.set_cons_zero, List.set_cons_succ]
    refine wpAnyH_take (i := 5) (oi := ⟨some _, _, _, _, _, _⟩) (v := (.int .i64 1)) rfl (by kernel_rfl) (by kernel_rfl) (by kernel_rfl) (fun _ _ _ h => h) (Or.inl ⟨by rfl, ?_⟩) ht ?_
    ·intro W9 hSw
     go_simp
    try simp only [Act.put, List.setIfInBounds_toArray, List.set_cons_zero, List.set_cons_succ]
    refine wpAnyH_take (i := 6) (oi := ⟨some _, _, _, _, _, _⟩) (v := (.bool false)) rfl (by kernel_rfl) (by kernel_rfl) (by kernel_rfl) (fun _ _ _ h => h) (Or.inl ⟨by rfl, ?_⟩) ht ?_
    ·intro W9 hSw
     go_simp
    try simp only [Act.put, List.setIfInBounds_toArray, List.set_cons_zero, List.set_cons_succ]
    refine wpAnyH_take (i := 7) (oi := ⟨some _, _, _, _, _, _⟩) (v := (.bool false)) rfl (by kernel_rfl) (by kernel_rfl) (by kernel_rfl) (fun _ _ _ h => h) (Or.inl ⟨by rfl, ?_⟩) ht ?_
    ·intro W9 hSw
     go_simp
    try simp only [Act.put, List.setIfInBounds_toArray, List.set_cons_zero, List.set_cons_succ]
    refine wpAnyH_done (by kernel_rfl) ?_ _
    have HB129 := Lib.hid ht
    clear ht
    go_upto_region 14 with (fail)
    refine wp_region_held_drew (S := fun W9 => Below wz.heap.size wz W9) (by kernel_rfl) (show Below wz.heap.size wz x29.drew from below_drewN HB129.out 1) (fun ht => ?_)
    generalize x29.drew = wd at *
    refine wpAnyH_take (i := 0) (oi := ⟨some _, _, _, _, _, _⟩) (v := (.func (.func 11) #[] #[])) rfl (by kernel_rfl) (by kernel_rfl) (by kernel_rfl) (fun _ _ _ h => h) (Or.inl ⟨by rfl, ?_⟩) ht ?_
    ·intro W9 hSw
     go_simp
    try simp only [Act.put, List.setIfInBounds_toArray, List.set_cons_zero, List.set_cons_succ]
    refine wpAnyH_take (i := 1) (oi := ⟨some _, _, _, _, _, _⟩) (v := (.agg #[.int .i64 m_1, .bool m_2, .bool m_3, .string ⟨m_4.toArray⟩, .int .i64 m_5, .string ⟨m_6.toArray⟩, .slice m_7 m_8 m_9, .slice m_a m_b m_c])) rfl (by kernel_rfl) (by kernel_rfl) (by kernel_rfl) (fun _ _ _ h => h) (Or.inl ⟨by rfl, ?_⟩) ht ?_
    ·intro W9 hSw
     obtain ⟨b0, b1, b2, b3, b4, b5, b6, b7⟩ := (HBW.out.on hSw).eight
     have bl := (HBW.out.on hSw).lt
     go_simp
    try simp only [Act.put, List.setIfInBounds_toArray, List.set_cons_zero, List.set_cons_succ]
    refine wpAnyH_take (i := 3) (oi := ⟨some _, _, _, _, _, _⟩) (v := (.agg #[.int .i64 k_1, .bool k_2, .bool k_3, .string ⟨k_4.toArray⟩, .int .i64 k_5, .string ⟨k_6.toArray⟩, .slice k_7 k_8 k_9, .slice k_a k_b k_c])) rfl (by kernel_rfl) (by kernel_rfl) (by kernel_rfl) (fun _ _ _ h => h) (Or.inl ⟨by rfl, ?_⟩) ht ?_
    ·intro W9 hSw
     obtain ⟨b0, b1, b2, b3, b4, b5, b6, b7⟩ := (HBV.out.on hSw).eight
     have bl := (HBV.out.on hSw).lt
     go_simp
    try simp only [Act.put, List.setIfInBounds_toArray, List.set_cons_zero, List.set_cons_succ]
    refine wpAnyH_ready (rs := [2]) (by kernel_rfl) (by simp) ?_
    refine AllReadyH.cons (o := ⟨some _, _, _, _, _, _⟩) rfl (fun K hK => ?_) (AllReadyH.nil)
    go_simp
    refine (keySide_any Ow.kConst y (.agg #[.int .i64 m_1, .bool m_2, .bool m_3, .string ⟨m_4.toArray⟩, .int .i64 m_5, .string ⟨m_6.toArray⟩, .slice m_7 m_8 m_9, .slice m_a m_b m_c]) _ (In.keep (le_below ht) _ _ HXW.out)).mono ?_
    rintro e30 x30 ⟨g30, rfl, hk30, hb30⟩
    have hs := ht.trans (hb30.mono ht.size)
    have HK30 := Lib.hid hk30
    clear ht hb30 hk30
    go_wp2_with fail
    refine hK.out _ _ hs (fun ht => ?_)
    clear hK K hs
    try simp only [Act.put, List.setIfInBounds_toArray, List.set_cons_zero, List.set_cons_succ]
    refine wpAnyH_ready (rs := [4]) (by kernel_rfl) (by simp) ?_
    refine AllReadyH.cons (o := ⟨some _, _, _, _, _, _⟩) rfl (fun K hK => ?_) (AllReadyH.nil)
    go_simp
    refine (ownKey14 HO.out (HG.out _ ht) HK30.out HWW.out HWV.out (In.keep (le_below ht) _ _ HXV.out) (n := 1) HNnst.out).mono ?_
    rintro e31 x31 ⟨A31, c31, rfl, hb31⟩
    have hs := ht.trans (hb31.mono ht.size)
    clear ht hb31 HK30
    go_wp2_with fail
    refine hK.out _ _ hs (fun ht => ?_)
    clear hK K hs
    try simp only [Act.put, List.setIfInBounds_toArray, List.set_cons_zero, List.set_cons_succ]
    refine wpAnyH_take (i := 5) (oi := ⟨some _, _, _, _, _, _⟩) (v := (.int .i64 1)) rfl (by kernel_rfl) (by kernel_rfl) (by kernel_rfl) (fun _ _ _ h => h) (Or.inl ⟨by rfl, ?_⟩) ht ?_
    ·intro W9 hSw
     go_simp
    try simp only [Act.put, List.setIfInBounds_toArray, List.set_cons_zero, List.set_cons_succ]
    refine wpAnyH_take (i := 6) (oi := ⟨some _, _, _, _, _, _⟩) (v := (.bool false)) rfl (by kernel_rfl) (by kernel_rfl) (by kernel_rfl) (fun _ _ _ h => h) (Or.inl ⟨by rfl, ?_⟩) ht ?_
    ·intro W9 hSw
     go_simp
    try simp only [Act.put, List.setIfInBounds_toArray, List.set_cons_zero, List.set_cons_succ]
    refine wpAnyH_take (i := 7) (oi := ⟨some _, _, _, _, _, _⟩) (v := (.bool false)) rfl (by kernel_rfl) (by kernel_rfl) (by kernel_rfl) (fun _ _ _ h => h) (Or.inl ⟨by rfl, ?_⟩) ht ?_
    ·intro W9 hSw
     go_simp
    try simp only [Act.put, List.setIfInBounds_toArray, List.set_cons_zero, List.set_cons_succ]
    refine wpAnyH_done (by kernel_rfl) ?_ _
    have HB131 := Lib.hid ht
    clear ht
    have h2 := H2.out
    obtain ⟨b0, b1, b2, b3, b4, b5, b6, b7⟩ := (HBV.out.on HB131.out).eight
    have bl := (HBV.out.on HB131.out).lt
    obtain ⟨c0, c1, c2, c3, c4, c5, c6, c7⟩ := (HBW.out.on HB131.out).eight
    have cl := (HBW.out.on HB131.out).lt
    go_wp2_with fail
    go_ret
    exact ⟨rfl, HBZ.out.trans (HB131.out.mono HBZ.out.size)⟩
  ·subst h2
   clear hv1 hw1 hv2 HVL
   go_wp2_with fail
   go_ret
   exact ⟨rfl, HBZ.out.trans (HB9.out.mono HBZ.out.size)⟩
 ·clear b0 b1 b2 b3 b4 b5 b6 b7 bl c0 c1 c2 c3 c4 c5 c6 c7 cl
  generalize hlv : Ow.listOf v = lv at *
  subst hv2
  obtain ⟨b0, b1, b2, b3, b4, b5, b6, b7⟩ := (HBV.out.on HB9.out).eight
  have bl := (HBV.out.on HB9.out).lt
  obtain ⟨c0, c1, c2, c3, c4, c5, c6, c7⟩ := (HBW.out.on HB9.out).eight
  have cl := (HBW.out.on HB9.out).lt
  by_cases h4 : k_1 = 4 ∧ 0 < lv.length
  ·obtain ⟨rfl, hpos⟩ := h4
   clear hv1 hw1 h2
   have hp0 : (0 : Int) < (lv.length : Int) := by omega
   obtain ⟨xh, hxh⟩ : ∃ x, lv[0]? = some x := ⟨_, List.getElem?_eq_getElem hpos⟩
   have HHD := Lib.hid (show lv.head? = some xh by rw [List.head?_eq_getElem?]; exact hxh)
   have HMEM := Lib.hid (show xh ∈ lv from List.mem_of_getElem? hxh)
   have HWT := Lib.hid (show Wide (.mk 4 false Nm.Num.zero [] (lv ++ [xh]) []) by have := wide_twiceV14 HFV.out (x := xh) (by rw [hlv]; exact HMEM.out); rwa [hlv] at this)
   have hlen : lv.length ≤ 2000 := by rw [← hlv]; exact lenV14 HFV.out
   clear hlv
   have HTW := Lib.hid (fun b => Ow.twice HHD.out b)
   obtain ⟨fA, kA, xA⟩ := SlV_flat (S := fun b => b < w9.heap.size) (SlL.keep (le_whole14 w9) HVL.out)
   obtain ⟨gx, ox, yx, rfl, hxi, hxc⟩ := HVL.out 0 xh hxh
   obtain ⟨q_1, q_2, q_3, q_4, q_5, q_6, q_7, q_8, q_9, q_a, q_b, q_c, rfl⟩ := In.cells hxi
   have HFLAT := Lib.hid (kA.append (FlatV.one (In.keep (le_whole14 w9) _ _ hxi)))
   have HLFA := Lib.hid kA.1
   have HONEA := Lib.hid kA.2.1
   have HSA := Lib.hid xA
   have HONEX := Lib.hid (FlatV.one hxi).2.1
   have HXC := Lib.hid hxc
   have HX8 := Lib.hid (fun (W : World) (h : Below w9.heap.size w9 W) => (show _ ∧ _ ∧ _ ∧ _ ∧ _ ∧ _ ∧ _ ∧ W.cell? ⟨gx, ox + 7, none⟩ = some (.slice q_a q_b q_c) from ⟨(show W.cell? ⟨gx, ox, none⟩ = _ from le_below h _ _ (hxc 0 _ rfl)), (show W.cell? ⟨gx, ox + 1, none⟩ = _ from le_below h _ _ (hxc 1 _ rfl)), (show W.cell? ⟨gx, ox + 2, none⟩ = _ from le_below h _ _ (hxc 2 _ rfl)), (show W.cell? ⟨gx, ox + 3, none⟩ = _ from le_below h _ _ (hxc 3 _ rfl)), (show W.cell? ⟨gx, ox + 4, none⟩ = _ from le_below h _ _ (hxc 4 _ rfl)), (show W.cell? ⟨gx, ox + 5, none⟩ = _ from le_below h _ _ (hxc 5 _ rfl)), (show W.cell? ⟨gx, ox + 6, none⟩ = _ from le_below h _ _ (hxc 6 _ rfl)), le_below h _ _ (hxc 7 _ rfl)⟩))
   clear hxc hxi hxh kA xA HVL HXC
   obtain ⟨i0, hi0, hz0, hz1, hz2⟩ := infoV'
   go_upto_region 18 with (fail)
   clear b0 b1 b2 b3 b4 b5 b6 b7 bl c0 c1 c2 c3 c4 c5 c6 c7 cl
   go_cut [14] from 126 to 136 (fun v14 wc => ∃ (gZ : Nat) (A : Option Addr) (cp : Nat), v14 = .pointer (some ⟨gZ, 0, none⟩) ∧ Fin14 w9 lv [xh] gZ A cp wc)
   case first =>
    refine wp_region_held_drew (S := fun W9 => Below w9.heap.size w9 W9) (by kernel_rfl) (show Below w9.heap.size w9 w9.drew from below_drewN (Below.refl _ _) 1) (fun ht => ?_)
    obtain ⟨wd, hwd⟩ : ∃ W, W = w9.drew := ⟨_, rfl⟩
    rw [← hwd] at ht ⊢
    clear hwd
    refine wpAnyH_take (i := 1) (oi := ⟨some _, _, _, _, _, _⟩) (v := (.pointer (some ⟨gV, 6, none⟩))) rfl (by kernel_rfl) (by kernel_rfl) (by kernel_rfl) (fun _ _ _ h => h) (Or.inl ⟨by rfl, ?_⟩) ht ?_
    ·intro W9 hSw
     go_simp
    try simp only [Act.put, List.setIfInBounds_toArray, List.set_cons_zero, List.set_cons_succ]
    refine wpAnyH_take (i := 2) (oi := ⟨some _, _, _, _, _, _⟩) (v := (.slice (some ⟨gx, ox, none⟩) lv.length k_9)) rfl (by kernel_rfl) (by kernel_rfl) (by kernel_rfl) (fun _ _ _ h => h) (Or.inl ⟨by rfl, ?_⟩) ht ?_
    ·intro W9 hSw
     obtain ⟨b0, b1, b2, b3, b4, b5, b6, b7⟩ := (HBV.out.on (HB9.out.trans (hSw.mono HB9.out.size))).eight
     have bl := (HBV.out.on (HB9.out.trans (hSw.mono HB9.out.size))).lt
     go_simp
    try simp only [Act.put, List.setIfInBounds_toArray, List.set_cons_zero, List.set_cons_succ]
    refine wpAnyH_take (i := 4) (oi := ⟨some _, _, _, _, _, _⟩) (v := (.pointer (some ⟨gV, 6, none⟩))) rfl (by kernel_rfl) (by kernel_rfl) (by kernel_rfl) (fun _ _ _ h => h) (Or.inl ⟨by rfl, ?_⟩) ht ?_
    ·intro W9 hSw
     go_simp
    try simp only [Act.put, List.setIfInBounds_toArray, List.set_cons_zero, List.set_cons_succ]
    refine wpAnyH_take (i := 5) (oi := ⟨some _, _, _, _, _, _⟩) (v := (.slice (some ⟨gx, ox, none⟩) lv.length k_9)) rfl (by kernel_rfl) (by kernel_rfl) (by kernel_rfl) (fun _ _ _ h => h) (Or.inl ⟨by rfl, ?_⟩) ht ?_
    ·intro W9 hSw
     obtain ⟨b0, b1, b2, b3, b4, b5, b6, b7⟩ := (HBV.out.on (HB9.out.trans (hSw.mono HB9.out.size))).eight
     have bl := (HBV.out.on (HB9.out.trans (hSw.mono HB9.out.size))).lt
     go_simp
    try simp only [Act.put, List.setIfInBounds_toArray, List.set_cons_zero, List.set_cons_succ]
    refine wpAnyH_take (i := 6) (oi := ⟨some _, _, _, _, _, _⟩) (v := (.pointer (some ⟨gx, ox, none⟩))) rfl (by kernel_rfl) (by kernel_rfl) (by kernel_rfl) (fun _ _ _ h => h) (Or.inl ⟨by rfl, ?_⟩) ht ?_
    ·intro W9 hSw
     go_simp
    try simp only [Act.put, List.setIfInBounds_toArray, List.set_cons_zero, List.set_cons_succ]
    refine wpAnyH_take (i := 7) (oi := ⟨some _, _, _, _, _, _⟩) (v := (.agg #[.int .i64 q_1, .bool q_2, .bool q_3, .string ⟨q_4.toArray⟩, .int .i64 q_5, .string ⟨q_6.toArray⟩, .slice q_7 q_8 q_9, .slice q_a q_b q_c])) rfl (by kernel_rfl) (by kernel_rfl) (by kernel_rfl) (fun _ _ _ h => h) (Or.inl ⟨by rfl, ?_⟩) ht ?_
    ·intro W9 hSw
     obtain ⟨d0, d1, d2, d3, d4, d5, d6, d7⟩ := HX8.out W9 hSw
     have dl := World.block_lt_of_cell? _ _ d0
     go_simp
    try simp only [Act.put, List.setIfInBounds_toArray, List.set_cons_zero, List.set_cons_succ]
    refine wpAnyH_ready (rs := [0, 8, 11]) (by kernel_rfl) (by simp) ?_
    refine AllReadyH.cons (o := ⟨some _, _, _, _, _, _⟩) rfl (fun K hK => ?_) (AllReadyH.cons (o := ⟨some _, _, _, _, _, _⟩) rfl (fun K hK => ?_) (AllReadyH.cons (o := ⟨some _, _, _, _, _, _⟩) rfl (fun K hK => ?_) (AllReadyH.nil)))
    ·go_simp
     refine via14 (K := K) (fun W9 => Below w9.heap.size w9 W9 ∧ W9.ownsRow w9.heap.size 31 8 (.slice (some ⟨wd.heap.size, 0, none⟩) 0 0) 0 []) ⟨ht.alloc ht.size _, World.ownsRow_lit wd #[] 0 ht.size (by unfold maxLen; omega) rfl⟩ ?_
     rintro x32 ⟨ht1, h32_0⟩
     have Hown32 := Lib.hid h32_0
     clear h32_0
     refine hK.out _ _ ht1 (fun ht => ?_)
     clear hK K ht1
     try simp only [Act.put, List.setIfInBounds_toArray, List.set_cons_zero, List.set_cons_succ]
     obtain ⟨r32, hr32⟩ : ∃ g, g = wd.heap.size := ⟨_, rfl⟩
     rw [← hr32] at Hown32 ⊢
     clear hr32
     refine wpAnyH_ready (rs := [3, 8, 11]) (by kernel_rfl) (by simp) ?_
     refine AllReadyH.cons (o := ⟨some _, _, _, _, _, _⟩) rfl (fun K hK => ?_) (AllReadyH.cons (o := ⟨some _, _, _, _, _, _⟩) rfl (fun K hK => ?_) (AllReadyH.cons (o := ⟨some _, _, _, _, _, _⟩) rfl (fun K hK => ?_) (AllReadyH.nil)))
     ·refine step_append_src14 _ rfl _ _ _ rfl w9.heap.size 31 i0 _ 8 112 Tryz.underlying28 hi0 hz0 hz1 hz2 rfl (by omega) (.slice (some ⟨r32, 0, none⟩) 0 0) 0 [] rfl Hown32.out (some ⟨gx, ox, none⟩) lv.length k_9 fA rfl HLFA.out (HSA.out.keep ht) HONEA.out (by unfold maxLen; omega) (by omega) ht.size lv.length (by omega) ?_
      intro A33 c33 x33 hown hgr hat
      have ht1 := below_grown14 ht Hown32.out hgr
      have Hown33 := Lib.hid hown
      clear hown hgr hat
      refine hK.out _ _ ht1 (fun ht => ?_)
      clear hK K ht1
      try simp only [Act.put, List.setIfInBounds_toArray, List.set_cons_zero, List.set_cons_succ]
      refine wpAnyH_ready (rs := [8, 11]) (by kernel_rfl) (by simp) ?_
      refine AllReadyH.cons (o := ⟨some _, _, _, _, _, _⟩) rfl (fun K hK => ?_) (AllReadyH.cons (o := ⟨some _, _, _, _, _, _⟩) rfl (fun K hK => ?_) (AllReadyH.nil))
      ·go_simp
       refine via14 (K := K) (fun W9 => Below w9.heap.size w9 W9 ∧ ZAt14 #[.int .i64 q_1, .bool q_2, .bool q_3, .string ⟨q_4.toArray⟩, .int .i64 q_5, .string ⟨q_6.toArray⟩, .slice q_7 q_8 q_9, .slice q_a q_b q_c] W9 w9.heap.size x33.heap.size A33 ∧ W9.ownsRow w9.heap.size 31 8 (.slice A33 lv.length c33) lv.length ([] ++ fA)) ⟨ht.alloc ht.size _, ZAt14.new (w := x33) ht.size (own_lt14 Hown33.out), Hown33.out.alloc _⟩ ?_
       rintro x34 ⟨ht1, h34_0, h34_1⟩
       have HONE34 := Lib.hid h34_0
       have Hown34 := Lib.hid h34_1
       clear h34_0 h34_1
       refine hK.out _ _ ht1 (fun ht => ?_)
       clear hK K ht1
       try simp only [Act.put, List.setIfInBounds_toArray, List.set_cons_zero, List.set_cons_succ]
       obtain ⟨r34, hr34⟩ : ∃ g, g = x33.heap.size := ⟨_, rfl⟩
       rw [← hr34] at HONE34 ⊢
       clear hr34
       refine wpAnyH_ready (rs := [9, 11]) (by kernel_rfl) (by simp) ?_
       refine AllReadyH.cons (o := ⟨some _, _, _, _, _, _⟩) rfl (fun K hK => ?_) (AllReadyH.cons (o := ⟨some _, _, _, _, _, _⟩) rfl (fun K hK => ?_) (AllReadyH.nil))
       ·refine step_append_src14 _ rfl _ _ _ rfl w9.heap.size 31 i0 _ 8 112 Tryz.underlying28 hi0 hz0 hz1 hz2 rfl (by omega) (.slice A33 lv.length c33) lv.length ([] ++ fA) rfl Hown34.out (some ⟨r34, 0, none⟩) 1 1 [.int .i64 q_1, .bool q_2, .bool q_3, .string ⟨q_4.toArray⟩, .int .i64 q_5, .string ⟨q_6.toArray⟩, .slice q_7 q_8 q_9, .slice q_a q_b q_c] rfl rfl (src_one14 (l := [.int .i64 q_1, .bool q_2, .bool q_3, .string ⟨q_4.toArray⟩, .int .i64 q_5, .string ⟨q_6.toArray⟩, .slice q_7 q_8 q_9, .slice q_a q_b q_c]) HONE34.out.blk) HONEX.out (by unfold maxLen; omega) (by omega) ht.size (lv.length + 1) (by omega) ?_
        intro A35 c35 x35 hown hgr hat
        have ht1 := below_grown14 ht Hown34.out hgr
        have Hown35 := Lib.hid hown
        have HONE35 := Lib.hid (ZAt14.grown HONE34.out hgr hat)
        clear hown hgr hat
        refine hK.out _ _ ht1 (fun ht => ?_)
        clear hK K ht1
        try simp only [Act.put, List.setIfInBounds_toArray, List.set_cons_zero, List.set_cons_succ]
        refine wpAnyH_take (i := 10) (oi := ⟨some _, _, _, _, _, _⟩) (v := (.agg #[.int .i64 4, .bool false, .bool false, .string ⟨#[]⟩, .int .i64 0, .string ⟨#[]⟩, .slice A35 (lv.length + 1) c35, .slice none 0 0])) rfl (by kernel_rfl) (by kernel_rfl) (by kernel_rfl) (fun _ _ _ h => h) (Or.inl ⟨by rfl, ?_⟩) ht ?_
        ·intro W9 hSw
         go_simp
        try simp only [Act.put, List.setIfInBounds_toArray, List.set_cons_zero, List.set_cons_succ]
        refine wpAnyH_ready (rs := [11]) (by kernel_rfl) (by simp) ?_
        refine AllReadyH.cons (o := ⟨some _, _, _, _, _, _⟩) rfl (fun K hK => ?_) (AllReadyH.nil)
        ·go_simp
         refine via14 (K := K) (fun W9 => Below w9.heap.size w9 W9 ∧ ZAt14 zero8 W9 w9.heap.size x35.heap.size A35 ∧ W9.ownsRow w9.heap.size 31 8 (.slice A35 (lv.length + 1) c35) (lv.length + 1) ([] ++ fA ++ [.int .i64 q_1, .bool q_2, .bool q_3, .string ⟨q_4.toArray⟩, .int .i64 q_5, .string ⟨q_6.toArray⟩, .slice q_7 q_8 q_9, .slice q_a q_b q_c]) ∧ ZAt14 #[.int .i64 q_1, .bool q_2, .bool q_3, .string ⟨q_4.toArray⟩, .int .i64 q_5, .string ⟨q_6.toArray⟩, .slice q_7 q_8 q_9, .slice q_a q_b q_c] W9 w9.heap.size r34 A35) ⟨ht.alloc ht.size _, ZAt14.new (w := x35) ht.size (own_lt14 Hown35.out), Hown35.out.alloc _, ZAt14.on HONE35.out _⟩ ?_
         rintro x36 ⟨ht1, h36_0, h36_1, h36_2⟩
         have HZ36 := Lib.hid h36_0
         have Hown36 := Lib.hid h36_1
         have HONE36 := Lib.hid h36_2
         clear h36_0 h36_1 h36_2
         refine hK.out _ _ ht1 (fun ht => ?_)
         clear hK K ht1
         try simp only [Act.put, List.setIfInBounds_toArray, List.set_cons_zero, List.set_cons_succ]
         obtain ⟨r36, hr36⟩ : ∃ g, g = x35.heap.size := ⟨_, rfl⟩
         rw [← hr36] at HZ36 ⊢
         clear hr36
         refine wpAnyH_ready (rs := [12]) (by kernel_rfl) (by simp) ?_
         refine AllReadyH.cons (o := ⟨none, _, _, _, _, _⟩) rfl (fun K hK => ?_) (AllReadyH.nil)
         ·obtain ⟨z0, z1, z2, z3, z4, z5, z6, z7⟩ := HZ36.out.blk.eight
          have zf := HZ36.out.blk.frozen
          have zl := HZ36.out.blk.lt
          go_simp
          refine via14 (K := K) (fun W9 => Below w9.heap.size w9 W9 ∧ Fin14 w9 lv [xh] r36 A35 c35 W9) ⟨below_set8 ht HZ36.out.ge _ _ _ _ _ _ _ _, fin14 HFLAT.out Hown36.out HZ36.out ht⟩ ?_
          rintro x37 ⟨ht1, hfin⟩
          have HFIN := Lib.hid hfin
          clear hfin z0 z1 z2 z3 z4 z5 z6 z7 zf zl
          refine hK.out _ _ ht1 (fun ht => ?_)
          clear hK K ht1
          try simp only [Act.put, List.setIfInBounds_toArray, List.set_cons_zero, List.set_cons_succ]
          refine wpAnyH_done (by kernel_rfl) ?_ _
          clear ht
          go_wp2_with fail
          go_meet
          case rel => exact ⟨r36, A35, c35, rfl, HFIN.out⟩
       ·go_simp
        refine via14 (K := K) (fun W9 => Below w9.heap.size w9 W9 ∧ ZAt14 zero8 W9 w9.heap.size x34.heap.size A33 ∧ W9.ownsRow w9.heap.size 31 8 (.slice A33 lv.length c33) lv.length ([] ++ fA) ∧ ZAt14 #[.int .i64 q_1, .bool q_2, .bool q_3, .string ⟨q_4.toArray⟩, .int .i64 q_5, .string ⟨q_6.toArray⟩, .slice q_7 q_8 q_9, .slice q_a q_b q_c] W9 w9.heap.size r34 A33) ⟨ht.alloc ht.size _, ZAt14.new (w := x34) ht.size (own_lt14 Hown34.out), Hown34.out.alloc _, ZAt14.on HONE34.out _⟩ ?_
        rintro x38 ⟨ht1, h38_0, h38_1, h38_2⟩
        have HZ38 := Lib.hid h38_0
        have Hown38 := Lib.hid h38_1
        have HONE38 := Lib.hid h38_2
        clear h38_0 h38_1 h38_2
        refine hK.out _ _ ht1 (fun ht => ?_)
        clear hK K ht1
        try simp only [Act.put, List.setIfInBounds_toArray, List.set_cons_zero, List.set_cons_succ]
        obtain ⟨r38, hr38⟩ : ∃ g, g = x34.heap.size := ⟨_, rfl⟩
        rw [← hr38] at HZ38 ⊢
        clear hr38
        refine wpAnyH_ready (rs := [9]) (by kernel_rfl) (by simp) ?_
        refine AllReadyH.cons (o := ⟨some _, _, _, _, _, _⟩) rfl (fun K hK => ?_) (AllReadyH.nil)
        ·refine step_append_src14 _ rfl _ _ _ rfl w9.heap.size 31 i0 _ 8 112 Tryz.underlying28 hi0 hz0 hz1 hz2 rfl (by omega) (.slice A33 lv.length c33) lv.length ([] ++ fA) rfl Hown38.out (some ⟨r34, 0, none⟩) 1 1 [.int .i64 q_1, .bool q_2, .bool q_3, .string ⟨q_4.toArray⟩, .int .i64 q_5, .string ⟨q_6.toArray⟩, .slice q_7 q_8 q_9, .slice q_a q_b q_c] rfl rfl (src_one14 (l := [.int .i64 q_1, .bool q_2, .bool q_3, .string ⟨q_4.toArray⟩, .int .i64 q_5, .string ⟨q_6.toArray⟩, .slice q_7 q_8 q_9, .slice q_a q_b q_c]) HONE38.out.blk) HONEX.out (by unfold maxLen; omega) (by omega) ht.size (lv.length + 1) (by omega) ?_
         intro A39 c39 x39 hown hgr hat
         have ht1 := below_grown14 ht Hown38.out hgr
         have Hown39 := Lib.hid hown
         have HZ39 := Lib.hid (ZAt14.grown HZ38.out hgr hat)
         have HONE39 := Lib.hid (ZAt14.grown HONE38.out hgr hat)
         clear hown hgr hat
         refine hK.out _ _ ht1 (fun ht => ?_)
         clear hK K ht1
         try simp only [Act.put, List.setIfInBounds_toArray, List.set_cons_zero, List.set_cons_succ]
         refine wpAnyH_take (i := 10) (oi := ⟨some _, _, _, _, _, _⟩) (v := (.agg #[.int .i64 4, .bool false, .bool false, .string ⟨#[]⟩, .int .i64 0, .string ⟨#[]⟩, .slice A39 (lv.length + 1) c39, .slice none 0 0])) rfl (by kernel_rfl) (by kernel_rfl) (by kernel_rfl) (fun _ _ _ h => h) (Or.inl ⟨by rfl, ?_⟩) ht ?_
         ·intro W9 hSw
          go_simp
         try simp only [Act.put, List.setIfInBounds_toArray, List.set_cons_zero, List.set_cons_succ]
         refine wpAnyH_ready (rs := [12]) (by kernel_rfl) (by simp) ?_
         refine AllReadyH.cons (o := ⟨none, _, _, _, _, _⟩) rfl (fun K hK => ?_) (AllReadyH.nil)
         ·obtain ⟨z0, z1, z2, z3, z4, z5, z6, z7⟩ := HZ39.out.blk.eight
          have zf := HZ39.out.blk.frozen
          have zl := HZ39.out.blk.lt
          go_simp
          refine via14 (K := K) (fun W9 => Below w9.heap.size w9 W9 ∧ Fin14 w9 lv [xh] r38 A39 c39 W9) ⟨below_set8 ht HZ39.out.ge _ _ _ _ _ _ _ _, fin14 HFLAT.out Hown39.out HZ39.out ht⟩ ?_
          rintro x40 ⟨ht1, hfin⟩
          have HFIN := Lib.hid hfin
          clear hfin z0 z1 z2 z3 z4 z5 z6 z7 zf zl
          refine hK.out _ _ ht1 (fun ht => ?_)
          clear hK K ht1
          try simp only [Act.put, List.setIfInBounds_toArray, List.set_cons_zero, List.set_cons_succ]
          refine wpAnyH_done (by kernel_rfl) ?_ _
          clear ht
          go_wp2_with fail
          go_meet
          case rel => exact ⟨r38, A39, c39, rfl, HFIN.out⟩
      ·go_simp
       refine via14 (K := K) (fun W9 => Below w9.heap.size w9 W9 ∧ ZAt14 zero8 W9 w9.heap.size x33.heap.size A33 ∧ W9.ownsRow w9.heap.size 31 8 (.slice A33 lv.length c33) lv.length ([] ++ fA)) ⟨ht.alloc ht.size _, ZAt14.new (w := x33) ht.size (own_lt14 Hown33.out), Hown33.out.alloc _⟩ ?_
       rintro x41 ⟨ht1, h41_0, h41_1⟩
       have HZ41 := Lib.hid h41_0
       have Hown41 := Lib.hid h41_1
       clear h41_0 h41_1
       refine hK.out _ _ ht1 (fun ht => ?_)
       clear hK K ht1
       try simp only [Act.put, List.setIfInBounds_toArray, List.set_cons_zero, List.set_cons_succ]
       obtain ⟨r41, hr41⟩ : ∃ g, g = x33.heap.size := ⟨_, rfl⟩
       rw [← hr41] at HZ41 ⊢
       clear hr41
       refine wpAnyH_ready (rs := [8]) (by kernel_rfl) (by simp) ?_
       refine AllReadyH.cons (o := ⟨some _, _, _, _, _, _⟩) rfl (fun K hK => ?_) (AllReadyH.nil)
       ·go_simp
        refine via14 (K := K) (fun W9 => Below w9.heap.size w9 W9 ∧ ZAt14 #[.int .i64 q_1, .bool q_2, .bool q_3, .string ⟨q_4.toArray⟩, .int .i64 q_5, .string ⟨q_6.toArray⟩, .slice q_7 q_8 q_9, .slice q_a q_b q_c] W9 w9.heap.size x41.heap.size A33 ∧ W9.ownsRow w9.heap.size 31 8 (.slice A33 lv.length c33) lv.length ([] ++ fA) ∧ ZAt14 zero8 W9 w9.heap.size r41 A33) ⟨ht.alloc ht.size _, ZAt14.new (w := x41) ht.size (own_lt14 Hown41.out), Hown41.out.alloc _, ZAt14.on HZ41.out _⟩ ?_
        rintro x42 ⟨ht1, h42_0, h42_1, h42_2⟩
        have HONE42 := Lib.hid h42_0
        have Hown42 := Lib.hid h42_1
        have HZ42 := Lib.hid h42_2
        clear h42_0 h42_1 h42_2
        refine hK.out _ _ ht1 (fun ht => ?_)
        clear hK K ht1
        try simp only [Act.put, List.setIfInBounds_toArray, List.set_cons_zero, List.set_cons_succ]
        obtain ⟨r42, hr42⟩ : ∃ g, g = x41.heap.size := ⟨_, rfl⟩
        rw [← hr42] at HONE42 ⊢
        clear hr42
        refine wpAnyH_ready (rs := [9]) (by kernel_rfl) (by simp) ?_
        refine AllReadyH.cons (o := ⟨some _, _, _, _, _, _⟩) rfl (fun K hK => ?_) (AllReadyH.nil)
        ·refine step_append_src14 _ rfl _ _ _ rfl w9.heap.size 31 i0 _ 8 112 Tryz.underlying28 hi0 hz0 hz1 hz2 rfl (by omega) (.slice A33 lv.length c33) lv.length ([] ++ fA) rfl Hown42.out (some ⟨r42, 0, none⟩) 1 1 [.int .i64 q_1, .bool q_2, .bool q_3, .string ⟨q_4.toArray⟩, .int .i64 q_5, .string ⟨q_6.toArray⟩, .slice q_7 q_8 q_9, .slice q_a q_b q_c] rfl rfl (src_one14 (l := [.int .i64 q_1, .bool q_2, .bool q_3, .string ⟨q_4.toArray⟩, .int .i64 q_5, .string ⟨q_6.toArray⟩, .slice q_7 q_8 q_9, .slice q_a q_b q_c]) HONE42.out.blk) HONEX.out (by unfold maxLen; omega) (by omega) ht.size (lv.length + 1) (by omega) ?_
         intro A43 c43 x43 hown hgr hat
         have ht1 := below_grown14 ht Hown42.out hgr
         have Hown43 := Lib.hid hown
         have HZ43 := Lib.hid (ZAt14.grown HZ42.out hgr hat)
         have HONE43 := Lib.hid (ZAt14.grown HONE42.out hgr hat)
         clear hown hgr hat
         refine hK.out _ _ ht1 (fun ht => ?_)
         clear hK K ht1
         try simp only [Act.put, List.setIfInBounds_toArray, List.set_cons_zero, List.set_cons_succ]
         refine wpAnyH_take (i := 10) (oi := ⟨some _, _, _, _, _, _⟩) (v := (.agg #[.int .i64 4, .bool false, .bool false, .string ⟨#[]⟩, .int .i64 0, .string ⟨#[]⟩, .slice A43 (lv.length + 1) c43, .slice none 0 0])) rfl (by kernel_rfl) (by kernel_rfl) (by kernel_rfl) (fun _ _ _ h => h) (Or.inl ⟨by rfl, ?_⟩) ht ?_
         ·intro W9 hSw
          go_simp
         try simp only [Act.put, List.setIfInBounds_toArray, List.set_cons_zero, List.set_cons_succ]
         refine wpAnyH_ready (rs := [12]) (by kernel_rfl) (by simp) ?_
         refine AllReadyH.cons (o := ⟨none, _, _, _, _, _⟩) rfl (fun K hK => ?_) (AllReadyH.nil)
         ·obtain ⟨z0, z1, z2, z3, z4, z5, z6, z7⟩ := HZ43.out.blk.eight
          have zf := HZ43.out.blk.frozen
          have zl := HZ43.out.blk.lt
          go_simp
          refine via14 (K := K) (fun W9 => Below w9.heap.size w9 W9 ∧ Fin14 w9 lv [xh] r41 A43 c43 W9) ⟨below_set8 ht HZ43.out.ge _ _ _ _ _ _ _ _, fin14 HFLAT.out Hown43.out HZ43.out ht⟩ ?_
          rintro x44 ⟨ht1, hfin⟩
          have HFIN := Lib.hid hfin
          clear hfin z0 z1 z2 z3 z4 z5 z6 z7 zf zl
          refine hK.out _ _ ht1 (fun ht => ?_)
          clear hK K ht1
          try simp only [Act.put, List.setIfInBounds_toArray, List.set_cons_zero, List.set_cons_succ]
          refine wpAnyH_done (by kernel_rfl) ?_ _
          clear ht
          go_wp2_with fail
          go_meet
          case rel => exact ⟨r41, A43, c43, rfl, HFIN.out⟩
     ·go_simp
      refine via14 (K := K) (fun W9 => Below w9.heap.size w9 W9 ∧ ZAt14 #[.int .i64 q_1, .bool q_2, .bool q_3, .string ⟨q_4.toArray⟩, .int .i64 q_5, .string ⟨q_6.toArray⟩, .slice q_7 q_8 q_9, .slice q_a q_b q_c] W9 w9.heap.size x32.heap.size (some ⟨r32, 0, none⟩) ∧ W9.ownsRow w9.heap.size 31 8 (.slice (some ⟨r32, 0, none⟩) 0 0) 0 []) ⟨ht.alloc ht.size _, ZAt14.new (w := x32) ht.size (own_lt14 Hown32.out), Hown32.out.alloc _⟩ ?_
      rintro x45 ⟨ht1, h45_0, h45_1⟩
      have HONE45 := Lib.hid h45_0
      have Hown45 := Lib.hid h45_1
      clear h45_0 h45_1
      refine hK.out _ _ ht1 (fun ht => ?_)
      clear hK K ht1
      try simp only [Act.put, List.setIfInBounds_toArray, List.set_cons_zero, List.set_cons_succ]
      obtain ⟨r45, hr45⟩ : ∃ g, g = x32.heap.size := ⟨_, rfl⟩
      rw [← hr45] at HONE45 ⊢
      clear hr45
      refine wpAnyH_ready (rs := [3, 11]) (by kernel_rfl) (by simp) ?_
      refine AllReadyH.cons (o := ⟨some _, _, _, _, _, _⟩) rfl (fun K hK => ?_) (AllReadyH.cons (o := ⟨some _, _, _, _, _, _⟩) rfl (fun K hK => ?_) (AllReadyH.nil))
      ·refine step_append_src14 _ rfl _ _ _ rfl w9.heap.size 31 i0 _ 8 112 Tryz.underlying28 hi0 hz0 hz1 hz2 rfl (by omega) (.slice (some ⟨r32, 0, none⟩) 0 0) 0 [] rfl Hown45.out (some ⟨gx, ox, none⟩) lv.length k_9 fA rfl HLFA.out (HSA.out.keep ht) HONEA.out (by unfold maxLen; omega) (by omega) ht.size lv.length (by omega) ?_
       intro A46 c46 x46 hown hgr hat
       have ht1 := below_grown14 ht Hown45.out hgr
       have Hown46 := Lib.hid hown
       have HONE46 := Lib.hid (ZAt14.grown HONE45.out hgr hat)
       clear hown hgr hat
       refine hK.out _ _ ht1 (fun ht => ?_)
       clear hK K ht1
       try simp only [Act.put, List.setIfInBounds_toArray, List.set_cons_zero, List.set_cons_succ]
       refine wpAnyH_ready (rs := [9, 11]) (by kernel_rfl) (by simp) ?_
       refine AllReadyH.cons (o := ⟨some _, _, _, _, _, _⟩) rfl (fun K hK => ?_) (AllReadyH.cons (o := ⟨some _, _, _, _, _, _⟩) rfl (fun K hK => ?_) (AllReadyH.nil))
       ·refine step_append_src14 _ rfl _ _ _ rfl w9.heap.size 31 i0 _ 8 112 Tryz.underlying28 hi0 hz0 hz1 hz2 rfl (by omega) (.slice A46 lv.length c46) lv.length ([] ++ fA) rfl Hown46.out (some ⟨r45, 0, none⟩) 1 1 [.int .i64 q_1, .bool q_2, .bool q_3, .string ⟨q_4.toArray⟩, .int .i64 q_5, .string ⟨q_6.toArray⟩, .slice q_7 q_8 q_9, .slice q_a q_b q_c] rfl rfl (src_one14 (l := [.int .i64 q_1, .bool q_2, .bool q_3, .string ⟨q_4.toArray⟩, .int .i64 q_5, .string ⟨q_6.toArray⟩, .slice q_7 q_8 q_9, .slice q_a q_b q_c]) HONE46.out.blk) HONEX.out (by unfold maxLen; omega) (by omega) ht.size (lv.length + 1) (by omega) ?_
        intro A47 c47 x47 hown hgr hat
        have ht1 := below_grown14 ht Hown46.out hgr
        have Hown47 := Lib.hid hown
        have HONE47 := Lib.hid (ZAt14.grown HONE46.out hgr hat)
        clear hown hgr hat
        refine hK.out _ _ ht1 (fun ht => ?_)
        clear hK K ht1
        try simp only [Act.put, List.setIfInBounds_toArray, List.set_cons_zero, List.set_cons_succ]
        refine wpAnyH_take (i := 10) (oi := ⟨some _, _, _, _, _, _⟩) (v := (.agg #[.int .i64 4, .bool false, .bool false, .string ⟨#[]⟩, .int .i64 0, .string ⟨#[]⟩, .slice A47 (lv.length + 1) c47, .slice none 0 0])) rfl (by kernel_rfl) (by kernel_rfl) (by kernel_rfl) (fun _ _ _ h => h) (Or.inl ⟨by rfl, ?_⟩) ht ?_
        ·intro W9 hSw
         go_simp
        try simp only [Act.put, List.setIfInBounds_toArray, List.set_cons_zero, List.set_cons_succ]
        refine wpAnyH_ready (rs := [11]) (by kernel_rfl) (by simp) ?_
        refine AllReadyH.cons (o := ⟨some _, _, _, _, _, _⟩) rfl (fun K hK => ?_) (AllReadyH.nil)
        ·go_simp
         refine via14 (K := K) (fun W9 => Below w9.heap.size w9 W9 ∧ ZAt14 zero8 W9 w9.heap.size x47.heap.size A47 ∧ W9.ownsRow w9.heap.size 31 8 (.slice A47 (lv.length + 1) c47) (lv.length + 1) ([] ++ fA ++ [.int .i64 q_1, .bool q_2, .bool q_3, .string ⟨q_4.toArray⟩, .int .i64 q_5, .string ⟨q_6.toArray⟩, .slice q_7 q_8 q_9, .slice q_a q_b q_c]) ∧ ZAt14 #[.int .i64 q_1, .bool q_2, .bool q_3, .string ⟨q_4.toArray⟩, .int .i64 q_5, .string ⟨q_6.toArray⟩, .slice q_7 q_8 q_9, .slice q_a q_b q_c] W9 w9.heap.size r45 A47) ⟨ht.alloc ht.size _, ZAt14.new (w := x47) ht.size (own_lt14 Hown47.out), Hown47.out.alloc _, ZAt14.on HONE47.out _⟩ ?_
         rintro x48 ⟨ht1, h48_0, h48_1, h48_2⟩
         have HZ48 := Lib.hid h48_0
         have Hown48 := Lib.hid h48_1
         have HONE48 := Lib.hid h48_2
         clear h48_0 h48_1 h48_2
         refine hK.out _ _ ht1 (fun ht => ?_)
         clear hK K ht1
         try simp only [Act.put, List.setIfInBounds_toArray, List.set_cons_zero, List.set_cons_succ]
         obtain ⟨r48, hr48⟩ : ∃ g, g = x47.heap.size := ⟨_, rfl⟩
         rw [← hr48] at HZ48 ⊢
         clear hr48
         refine wpAnyH_ready (rs := [12]) (by kernel_rfl) (by simp) ?_
         refine AllReadyH.cons (o := ⟨none, _, _, _, _, _⟩) rfl (fun K hK => ?_) (AllReadyH.nil)
         ·obtain ⟨z0, z1, z2, z3, z4, z5, z6, z7⟩ := HZ48.out.blk.eight
          have zf := HZ48.out.blk.frozen
          have zl := HZ48.out.blk.lt
          go_simp
          refine via14 (K := K) (fun W9 => Below w9.heap.size w9 W9 ∧ Fin14 w9 lv [xh] r48 A47 c47 W9) ⟨below_set8 ht HZ48.out.ge _ _ _ _ _ _ _ _, fin14 HFLAT.out Hown48.out HZ48.out ht⟩ ?_
          rintro x49 ⟨ht1, hfin⟩
          have HFIN := Lib.hid hfin
          clear hfin z0 z1 z2 z3 z4 z5 z6 z7 zf zl
          refine hK.out _ _ ht1 (fun ht => ?_)
          clear hK K ht1
          try simp only [Act.put, List.setIfInBounds_toArray, List.set_cons_zero, List.set_cons_succ]
          refine wpAnyH_done (by kernel_rfl) ?_ _
          clear ht
          go_wp2_with fail
          go_meet
          case rel => exact ⟨r48, A47, c47, rfl, HFIN.out⟩
       ·go_simp
        refine via14 (K := K) (fun W9 => Below w9.heap.size w9 W9 ∧ ZAt14 zero8 W9 w9.heap.size x46.heap.size A46 ∧ W9.ownsRow w9.heap.size 31 8 (.slice A46 lv.length c46) lv.length ([] ++ fA) ∧ ZAt14 #[.int .i64 q_1, .bool q_2, .bool q_3, .string ⟨q_4.toArray⟩, .int .i64 q_5, .string ⟨q_6.toArray⟩, .slice q_7 q_8 q_9, .slice q_a q_b q_c] W9 w9.heap.size r45 A46) ⟨ht.alloc ht.size _, ZAt14.new (w := x46) ht.size (own_lt14 Hown46.out), Hown46.out.alloc _, ZAt14.on HONE46.out _⟩ ?_
        rintro x50 ⟨ht1, h50_0, h50_1, h50_2⟩
        have HZ50 := Lib.hid h50_0
        have Hown50 := Lib.hid h50_1
        have HONE50 := Lib.hid h50_2
        clear h50_0 h50_1 h50_2
        refine hK.out _ _ ht1 (fun ht => ?_)
        clear hK K ht1
        try simp only [Act.put, List.setIfInBounds_toArray, List.set_cons_zero, List.set_cons_succ]
        obtain ⟨r50, hr50⟩ : ∃ g, g = x46.heap.size := ⟨_, rfl⟩
        rw [← hr50] at HZ50 ⊢
        clear hr50
        refine wpAnyH_ready (rs := [9]) (by kernel_rfl) (by simp) ?_
        refine AllReadyH.cons (o := ⟨some _, _, _, _, _, _⟩) rfl (fun K hK => ?_) (AllReadyH.nil)
        ·refine step_append_src14 _ rfl _ _ _ rfl w9.heap.size 31 i0 _ 8 112 Tryz.underlying28 hi0 hz0 hz1 hz2 rfl (by omega) (.slice A46 lv.length c46) lv.length ([] ++ fA) rfl Hown50.out (some ⟨r45, 0, none⟩) 1 1 [.int .i64 q_1, .bool q_2, .bool q_3, .string ⟨q_4.toArray⟩, .int .i64 q_5, .string ⟨q_6.toArray⟩, .slice q_7 q_8 q_9, .slice q_a q_b q_c] rfl rfl (src_one14 (l := [.int .i64 q_1, .bool q_2, .bool q_3, .string ⟨q_4.toArray⟩, .int .i64 q_5, .string ⟨q_6.toArray⟩, .slice q_7 q_8 q_9, .slice q_a q_b q_c]) HONE50.out.blk) HONEX.out (by unfold maxLen; omega) (by omega) ht.size (lv.length + 1) (by omega) ?_
         intro A51 c51 x51 hown hgr hat
         have ht1 := below_grown14 ht Hown50.out hgr
         have Hown51 := Lib.hid hown
         have HZ51 := Lib.hid (ZAt14.grown HZ50.out hgr hat)
         have HONE51 := Lib.hid (ZAt14.grown HONE50.out hgr hat)
         clear hown hgr hat
         refine hK.out _ _ ht1 (fun ht => ?_)
         clear hK K ht1
         try simp only [Act.put, List.setIfInBounds_toArray, List.set_cons_zero, List.set_cons_succ]
         refine wpAnyH_take (i := 10) (oi := ⟨some _, _, _, _, _, _⟩) (v := (.agg #[.int .i64 4, .bool false, .bool false, .string ⟨#[]⟩, .int .i64 0, .string ⟨#[]⟩, .slice A51 (lv.length + 1) c51, .slice none 0 0])) rfl (by kernel_rfl) (by kernel_rfl) (by kernel_rfl) (fun _ _ _ h => h) (Or.inl ⟨by rfl, ?_⟩) ht ?_
         ·intro W9 hSw
          go_simp
         try simp only [Act.put, List.setIfInBounds_toArray, List.set_cons_zero, List.set_cons_succ]
         refine wpAnyH_ready (rs := [12]) (by kernel_rfl) (by simp) ?_
         refine AllReadyH.cons (o := ⟨none, _, _, _, _, _⟩) rfl (fun K hK => ?_) (AllReadyH.nil)
         ·obtain ⟨z0, z1, z2, z3, z4, z5, z6, z7⟩ := HZ51.out.blk.eight
          have zf := HZ51.out.blk.frozen
          have zl := HZ51.out.blk.lt
          go_simp
          refine via14 (K := K) (fun W9 => Below w9.heap.size w9 W9 ∧ Fin14 w9 lv [xh] r50 A51 c51 W9) ⟨below_set8 ht HZ51.out.ge _ _ _ _ _ _ _ _, fin14 HFLAT.out Hown51.out HZ51.out ht⟩ ?_
          rintro x52 ⟨ht1, hfin⟩
          have HFIN := Lib.hid hfin
          clear hfin z0 z1 z2 z3 z4 z5 z6 z7 zf zl
          refine hK.out _ _ ht1 (fun ht => ?_)
          clear hK K ht1
          try simp only [Act.put, List.setIfInBounds_toArray, List.set_cons_zero, List.set_cons_succ]
          refine wpAnyH_done (by kernel_rfl) ?_ _
          clear ht
          go_wp2_with fail
          go_meet
          case rel => exact ⟨r50, A51, c51, rfl, HFIN.out⟩
      ·go_simp
       refine via14 (K := K) (fun W9 => Below w9.heap.size w9 W9 ∧ ZAt14 zero8 W9 w9.heap.size x45.heap.size (some ⟨r32, 0, none⟩) ∧ W9.ownsRow w9.heap.size 31 8 (.slice (some ⟨r32, 0, none⟩) 0 0) 0 [] ∧ ZAt14 #[.int .i64 q_1, .bool q_2, .bool q_3, .string ⟨q_4.toArray⟩, .int .i64 q_5, .string ⟨q_6.toArray⟩, .slice q_7 q_8 q_9, .slice q_a q_b q_c] W9 w9.heap.size r45 (some ⟨r32, 0, none⟩)) ⟨ht.alloc ht.size _, ZAt14.new (w := x45) ht.size (own_lt14 Hown45.out), Hown45.out.alloc _, ZAt14.on HONE45.out _⟩ ?_
       rintro x53 ⟨ht1, h53_0, h53_1, h53_2⟩
       have HZ53 := Lib.hid h53_0
       have Hown53 := Lib.hid h53_1
       have HONE53 := Lib.hid h53_2
       clear h53_0 h53_1 h53_2
       refine hK.out _ _ ht1 (fun ht => ?_)
       clear hK K ht1
       try simp only [Act.put, List.setIfInBounds_toArray, List.set_cons_zero, List.set_cons_succ]
       obtain ⟨r53, hr53⟩ : ∃ g, g = x45.heap.size := ⟨_, rfl⟩
       rw [← hr53] at HZ53 ⊢
       clear hr53
       refine wpAnyH_ready (rs := [3]) (by kernel_rfl) (by simp) ?_
       refine AllReadyH.cons (o := ⟨some _, _, _, _, _, _⟩) rfl (fun K hK => ?_) (AllReadyH.nil)
       ·refine step_append_src14 _ rfl _ _ _ rfl w9.heap.size 31 i0 _ 8 112 Tryz.underlying28 hi0 hz0 hz1 hz2 rfl (by omega) (.slice (some ⟨r32, 0, none⟩) 0 0) 0 [] rfl Hown53.out (some ⟨gx, ox, none⟩) lv.length k_9 fA rfl HLFA.out (HSA.out.keep ht) HONEA.out (by unfold maxLen; omega) (by omega) ht.size lv.length (by omega) ?_
        intro A54 c54 x54 hown hgr hat
        have ht1 := below_grown14 ht Hown53.out hgr
        have Hown54 := Lib.hid hown
        have HZ54 := Lib.hid (ZAt14.grown HZ53.out hgr hat)
        have HONE54 := Lib.hid (ZAt14.grown HONE53.out hgr hat)
        clear hown hgr hat
        refine hK.out _ _ ht1 (fun ht => ?_)
        clear hK K ht1
        try simp only [Act.put, List.setIfInBounds_toArray, List.set_cons_zero, List.set_cons_succ]
        refine wpAnyH_ready (rs := [9]) (by kernel_rfl) (by simp) ?_
        refine AllReadyH.cons (o := ⟨some _, _, _, _, _, _⟩) rfl (fun K hK => ?_) (AllReadyH.nil)
        ·refine step_append_src14 _ rfl _ _ _ rfl w9.heap.size 31 i0 _ 8 112 Tryz.underlying28 hi0 hz0 hz1 hz2 rfl (by omega) (.slice A54 lv.length c54) lv.length ([] ++ fA) rfl Hown54.out (some ⟨r45, 0, none⟩) 1 1 [.int .i64 q_1, .bool q_2, .bool q_3, .string ⟨q_4.toArray⟩, .int .i64 q_5, .string ⟨q_6.toArray⟩, .slice q_7 q_8 q_9, .slice q_a q_b q_c] rfl rfl (src_one14 (l := [.int .i64 q_1, .bool q_2, .bool q_3, .string ⟨q_4.toArray⟩, .int .i64 q_5, .string ⟨q_6.toArray⟩, .slice q_7 q_8 q_9, .slice q_a q_b q_c]) HONE54.out.blk) HONEX.out (by unfold maxLen; omega) (by omega) ht.size (lv.length + 1) (by omega) ?_
         intro A55 c55 x55 hown hgr hat
         have ht1 := below_grown14 ht Hown54.out hgr
         have Hown55 := Lib.hid hown
         have HZ55 := Lib.hid (ZAt14.grown HZ54.out hgr hat)
         have HONE55 := Lib.hid (ZAt14.grown HONE54.out hgr hat)
         clear hown hgr hat
         refine hK.out _ _ ht1 (fun ht => ?_)
         clear hK K ht1
         try simp only [Act.put, List.setIfInBounds_toArray, List.set_cons_zero, List.set_cons_succ]
         refine wpAnyH_take (i := 10) (oi := ⟨some _, _, _, _, _, _⟩) (v := (.agg #[.int .i64 4, .bool false, .bool false, .string ⟨#[]⟩, .int .i64 0, .string ⟨#[]⟩, .slice A55 (lv.length + 1) c55, .slice none 0 0])) rfl (by kernel_rfl) (by kernel_rfl) (by kernel_rfl) (fun _ _ _ h => h) (Or.inl ⟨by rfl, ?_⟩) ht ?_
         ·intro W9 hSw
          go_simp
         try simp only [Act.put, List.setIfInBounds_toArray, List.set_cons_zero, List.set_cons_succ]
         refine wpAnyH_ready (rs := [12]) (by kernel_rfl) (by simp) ?_
         refine AllReadyH.cons (o := ⟨none, _, _, _, _, _⟩) rfl (fun K hK => ?_) (AllReadyH.nil)
         ·obtain ⟨z0, z1, z2, z3, z4, z5, z6, z7⟩ := HZ55.out.blk.eight
          have zf := HZ55.out.blk.frozen
          have zl := HZ55.out.blk.lt
          go_simp
          refine via14 (K := K) (fun W9 => Below w9.heap.size w9 W9 ∧ Fin14 w9 lv [xh] r53 A55 c55 W9) ⟨below_set8 ht HZ55.out.ge _ _ _ _ _ _ _ _, fin14 HFLAT.out Hown55.out HZ55.out ht⟩ ?_
          rintro x56 ⟨ht1, hfin⟩
          have HFIN := Lib.hid hfin
          clear hfin z0 z1 z2 z3 z4 z5 z6 z7 zf zl
          refine hK.out _ _ ht1 (fun ht => ?_)
          clear hK K ht1
          try simp only [Act.put, List.setIfInBounds_toArray, List.set_cons_zero, List.set_cons_succ]
          refine wpAnyH_done (by kernel_rfl) ?_ _
          clear ht
          go_wp2_with fail
          go_meet
          case rel => exact ⟨r53, A55, c55, rfl, HFIN.out⟩
     ·go_simp
      refine via14 (K := K) (fun W9 => Below w9.heap.size w9 W9 ∧ ZAt14 zero8 W9 w9.heap.size x32.heap.size (some ⟨r32, 0, none⟩) ∧ W9.ownsRow w9.heap.size 31 8 (.slice (some ⟨r32, 0, none⟩) 0 0) 0 []) ⟨ht.alloc ht.size _, ZAt14.new (w := x32) ht.size (own_lt14 Hown32.out), Hown32.out.alloc _⟩ ?_
      rintro x57 ⟨ht1, h57_0, h57_1⟩
      have HZ57 := Lib.hid h57_0
      have Hown57 := Lib.hid h57_1
      clear h57_0 h57_1
      refine hK.out _ _ ht1 (fun ht => ?_)
      clear hK K ht1
      try simp only [Act.put, List.setIfInBounds_toArray, List.set_cons_zero, List.set_cons_succ]
      obtain ⟨r57, hr57⟩ : ∃ g, g = x32.heap.size := ⟨_, rfl⟩
      rw [← hr57] at HZ57 ⊢
      clear hr57
      refine wpAnyH_ready (rs := [3, 8]) (by kernel_rfl) (by simp) ?_
      refine AllReadyH.cons (o := ⟨some _, _, _, _, _, _⟩) rfl (fun K hK => ?_) (AllReadyH.cons (o := ⟨some _, _, _, _, _, _⟩) rfl (fun K hK => ?_) (AllReadyH.nil))
      ·refine step_append_src14 _ rfl _ _ _ rfl w9.heap.size 31 i0 _ 8 112 Tryz.underlying28 hi0 hz0 hz1 hz2 rfl (by omega) (.slice (some ⟨r32, 0, none⟩) 0 0) 0 [] rfl Hown57.out (some ⟨gx, ox, none⟩) lv.length k_9 fA rfl HLFA.out (HSA.out.keep ht) HONEA.out (by unfold maxLen; omega) (by omega) ht.size lv.length (by omega) ?_
       intro A58 c58 x58 hown hgr hat
       have ht1 := below_grown14 ht Hown57.out hgr
       have Hown58 := Lib.hid hown
       have HZ58 := Lib.hid (ZAt14.grown HZ57.out hgr hat)
       clear hown hgr hat
       refine hK.out _ _ ht1 (fun ht => ?_)
       clear hK K ht1
       try simp only [Act.put, List.setIfInBounds_toArray, List.set_cons_zero, List.set_cons_succ]
       refine wpAnyH_ready (rs := [8]) (by kernel_rfl) (by simp) ?_
       refine AllReadyH.cons (o := ⟨some _, _, _, _, _, _⟩) rfl (fun K hK => ?_) (AllReadyH.nil)
       ·go_simp
        refine via14 (K := K) (fun W9 => Below w9.heap.size w9 W9 ∧ ZAt14 #[.int .i64 q_1, .bool q_2, .bool q_3, .string ⟨q_4.toArray⟩, .int .i64 q_5, .string ⟨q_6.toArray⟩, .slice q_7 q_8 q_9, .slice q_a q_b q_c] W9 w9.heap.size x58.heap.size A58 ∧ W9.ownsRow w9.heap.size 31 8 (.slice A58 lv.length c58) lv.length ([] ++ fA) ∧ ZAt14 zero8 W9 w9.heap.size r57 A58) ⟨ht.alloc ht.size _, ZAt14.new (w := x58) ht.size (own_lt14 Hown58.out), Hown58.out.alloc _, ZAt14.on HZ58.out _⟩ ?_
        rintro x59 ⟨ht1, h59_0, h59_1, h59_2⟩
        have HONE59 := Lib.hid h59_0
        have Hown59 := Lib.hid h59_1
        have HZ59 := Lib.hid h59_2
        clear h59_0 h59_1 h59_2
        refine hK.out _ _ ht1 (fun ht => ?_)
        clear hK K ht1
        try simp only [Act.put, List.setIfInBounds_toArray, List.set_cons_zero, List.set_cons_succ]
        obtain ⟨r59, hr59⟩ : ∃ g, g = x58.heap.size := ⟨_, rfl⟩
        rw [← hr59] at HONE59 ⊢
        clear hr59
        refine wpAnyH_ready (rs := [9]) (by kernel_rfl) (by simp) ?_
        refine AllReadyH.cons (o := ⟨some _, _, _, _, _, _⟩) rfl (fun K hK => ?_) (AllReadyH.nil)
        ·refine step_append_src14 _ rfl _ _ _ rfl w9.heap.size 31 i0 _ 8 112 Tryz.underlying28 hi0 hz0 hz1 hz2 rfl (by omega) (.slice A58 lv.length c58) lv.length ([] ++ fA) rfl Hown59.out (some ⟨r59, 0, none⟩) 1 1 [.int .i64 q_1, .bool q_2, .bool q_3, .string ⟨q_4.toArray⟩, .int .i64 q_5, .string ⟨q_6.toArray⟩, .slice q_7 q_8 q_9, .slice q_a q_b q_c] rfl rfl (src_one14 (l := [.int .i64 q_1, .bool q_2, .bool q_3, .string ⟨q_4.toArray⟩, .int .i64 q_5, .string ⟨q_6.toArray⟩, .slice q_7 q_8 q_9, .slice q_a q_b q_c]) HONE59.out.blk) HONEX.out (by unfold maxLen; omega) (by omega) ht.size (lv.length + 1) (by omega) ?_
         intro A60 c60 x60 hown hgr hat
         have ht1 := below_grown14 ht Hown59.out hgr
         have Hown60 := Lib.hid hown
         have HZ60 := Lib.hid (ZAt14.grown HZ59.out hgr hat)
         have HONE60 := Lib.hid (ZAt14.grown HONE59.out hgr hat)
         clear hown hgr hat
         refine hK.out _ _ ht1 (fun ht => ?_)
         clear hK K ht1
         try simp only [Act.put, List.setIfInBounds_toArray, List.set_cons_zero, List.set_cons_succ]
         refine wpAnyH_take (i := 10) (oi := ⟨some _, _, _, _, _, _⟩) (v := (.agg #[.int .i64 4, .bool false, .bool false, .string ⟨#[]⟩, .int .i64 0, .string ⟨#[]⟩, .slice A60 (lv.length + 1) c60, .slice none 0 0])) rfl (by kernel_rfl) (by kernel_rfl) (by kernel_rfl) (fun _ _ _ h => h) (Or.inl ⟨by rfl, ?_⟩) ht ?_
         ·intro W9 hSw
          go_simp
         try simp only [Act.put, List.setIfInBounds_toArray, List.set_cons_zero, List.set_cons_succ]
         refine wpAnyH_ready (rs := [12]) (by kernel_rfl) (by simp) ?_
         refine AllReadyH.cons (o := ⟨none, _, _, _, _, _⟩) rfl (fun K hK => ?_) (AllReadyH.nil)
         ·obtain ⟨z0, z1, z2, z3, z4, z5, z6, z7⟩ := HZ60.out.blk.eight
          have zf := HZ60.out.blk.frozen
          have zl := HZ60.out.blk.lt
          go_simp
          refine via14 (K := K) (fun W9 => Below w9.heap.size w9 W9 ∧ Fin14 w9 lv [xh] r57 A60 c60 W9) ⟨below_set8 ht HZ60.out.ge _ _ _ _ _ _ _ _, fin14 HFLAT.out Hown60.out HZ60.out ht⟩ ?_
          rintro x61 ⟨ht1, hfin⟩
          have HFIN := Lib.hid hfin
          clear hfin z0 z1 z2 z3 z4 z5 z6 z7 zf zl
          refine hK.out _ _ ht1 (fun ht => ?_)
          clear hK K ht1
          try simp only [Act.put, List.setIfInBounds_toArray, List.set_cons_zero, List.set_cons_succ]
          refine wpAnyH_done (by kernel_rfl) ?_ _
          clear ht
          go_wp2_with fail
          go_meet
          case rel => exact ⟨r57, A60, c60, rfl, HFIN.out⟩
      ·go_simp
       refine via14 (K := K) (fun W9 => Below w9.heap.size w9 W9 ∧ ZAt14 #[.int .i64 q_1, .bool q_2, .bool q_3, .string ⟨q_4.toArray⟩, .int .i64 q_5, .string ⟨q_6.toArray⟩, .slice q_7 q_8 q_9, .slice q_a q_b q_c] W9 w9.heap.size x57.heap.size (some ⟨r32, 0, none⟩) ∧ W9.ownsRow w9.heap.size 31 8 (.slice (some ⟨r32, 0, none⟩) 0 0) 0 [] ∧ ZAt14 zero8 W9 w9.heap.size r57 (some ⟨r32, 0, none⟩)) ⟨ht.alloc ht.size _, ZAt14.new (w := x57) ht.size (own_lt14 Hown57.out), Hown57.out.alloc _, ZAt14.on HZ57.out _⟩ ?_
       rintro x62 ⟨ht1, h62_0, h62_1, h62_2⟩
       have HONE62 := Lib.hid h62_0
       have Hown62 := Lib.hid h62_1
       have HZ62 := Lib.hid h62_2
       clear h62_0 h62_1 h62_2
       refine hK.out _ _ ht1 (fun ht => ?_)
       clear hK K ht1
       try simp only [Act.put, List.setIfInBounds_toArray, List.set_cons_zero, List.set_cons_succ]
       obtain ⟨r62, hr62⟩ : ∃ g, g = x57.heap.size := ⟨_, rfl⟩
       rw [← hr62] at HONE62 ⊢
       clear hr62
       refine wpAnyH_ready (rs := [3]) (by kernel_rfl) (by simp) ?_
       refine AllReadyH.cons (o := ⟨some _, _, _, _, _, _⟩) rfl (fun K hK => ?_) (AllReadyH.nil)
       ·refine step_append_src14 _ rfl _ _ _ rfl w9.heap.size 31 i0 _ 8 112 Tryz.underlying28 hi0 hz0 hz1 hz2 rfl (by omega) (.slice (some ⟨r32, 0, none⟩) 0 0) 0 [] rfl Hown62.out (some ⟨gx, ox, none⟩) lv.length k_9 fA rfl HLFA.out (HSA.out.keep ht) HONEA.out (by unfold maxLen; omega) (by omega) ht.size lv.length (by omega) ?_
        intro A63 c63 x63 hown hgr hat
        have ht1 := below_grown14 ht Hown62.out hgr
        have Hown63 := Lib.hid hown
        have HZ63 := Lib.hid (ZAt14.grown HZ62.out hgr hat)
        have HONE63 := Lib.hid (ZAt14.grown HONE62.out hgr hat)
        clear hown hgr hat
        refine hK.out _ _ ht1 (fun ht => ?_)
        clear hK K ht1
        try simp only [Act.put, List.setIfInBounds_toArray, List.set_cons_zero, List.set_cons_succ]
        refine wpAnyH_ready (rs := [9]) (by kernel_rfl) (by simp) ?_
        refine AllReadyH.cons (o := ⟨some _, _, _, _, _, _⟩) rfl (fun K hK => ?_) (AllReadyH.nil)
        ·refine step_append_src14 _ rfl _ _ _ rfl w9.heap.size 31 i0 _ 8 112 Tryz.underlying28 hi0 hz0 hz1 hz2 rfl (by omega) (.slice A63 lv.length c63) lv.length ([] ++ fA) rfl Hown63.out (some ⟨r62, 0, none⟩) 1 1 [.int .i64 q_1, .bool q_2, .bool q_3, .string ⟨q_4.toArray⟩, .int .i64 q_5, .string ⟨q_6.toArray⟩, .slice q_7 q_8 q_9, .slice q_a q_b q_c] rfl rfl (src_one14 (l := [.int .i64 q_1, .bool q_2, .bool q_3, .string ⟨q_4.toArray⟩, .int .i64 q_5, .string ⟨q_6.toArray⟩, .slice q_7 q_8 q_9, .slice q_a q_b q_c]) HONE63.out.blk) HONEX.out (by unfold maxLen; omega) (by omega) ht.size (lv.length + 1) (by omega) ?_
         intro A64 c64 x64 hown hgr hat
         have ht1 := below_grown14 ht Hown63.out hgr
         have Hown64 := Lib.hid hown
         have HZ64 := Lib.hid (ZAt14.grown HZ63.out hgr hat)
         have HONE64 := Lib.hid (ZAt14.grown HONE63.out hgr hat)
         clear hown hgr hat
         refine hK.out _ _ ht1 (fun ht => ?_)
         clear hK K ht1
         try simp only [Act.put, List.setIfInBounds_toArray, List.set_cons_zero, List.set_cons_succ]
         refine wpAnyH_take (i := 10) (oi := ⟨some _, _, _, _, _, _⟩) (v := (.agg #[.int .i64 4, .bool false, .bool false, .string ⟨#[]⟩, .int .i64 0, .string ⟨#[]⟩, .slice A64 (lv.length + 1) c64, .slice none 0 0])) rfl (by kernel_rfl) (by kernel_rfl) (by kernel_rfl) (fun _ _ _ h => h) (Or.inl ⟨by rfl, ?_⟩) ht ?_
         ·intro W9 hSw
          go_simp
         try simp only [Act.put, List.setIfInBounds_toArray, List.set_cons_zero, List.set_cons_succ]
         refine wpAnyH_ready (rs := [12]) (by kernel_rfl) (by simp) ?_
         refine AllReadyH.cons (o := ⟨none, _, _, _, _, _⟩) rfl (fun K hK => ?_) (AllReadyH.nil)
         ·obtain ⟨z0, z1, z2, z3, z4, z5, z6, z7⟩ := HZ64.out.blk.eight
          have zf := HZ64.out.blk.frozen
          have zl := HZ64.out.blk.lt
          go_simp
          refine via14 (K := K) (fun W9 => Below w9.heap.size w9 W9 ∧ Fin14 w9 lv [xh] r57 A64 c64 W9) ⟨below_set8 ht HZ64.out.ge _ _ _ _ _ _ _ _, fin14 HFLAT.out Hown64.out HZ64.out ht⟩ ?_
          rintro x65 ⟨ht1, hfin⟩
          have HFIN := Lib.hid hfin
          clear hfin z0 z1 z2 z3 z4 z5 z6 z7 zf zl
          refine hK.out _ _ ht1 (fun ht => ?_)
          clear hK K ht1
          try simp only [Act.put, List.setIfInBounds_toArray, List.set_cons_zero, List.set_cons_succ]
          refine wpAnyH_done (by kernel_rfl) ?_ _
          clear ht
          go_wp2_with fail
          go_meet
          case rel => exact ⟨r57, A64, c64, rfl, HFIN.out⟩
    ·go_simp
     refine via14 (K := K) (fun W9 => Below w9.heap.size w9 W9 ∧ ZAt14 #[.int .i64 q_1, .bool q_2, .bool q_3, .string ⟨q_4.toArray⟩, .int .i64 q_5, .string ⟨q_6.toArray⟩, .slice q_7 q_8 q_9, .slice q_a q_b q_c] W9 w9.heap.size wd.heap.size none) ⟨ht.alloc ht.size _, ZAt14.new (w := wd) ht.size (fun ad e => by cases e)⟩ ?_
     rintro x66 ⟨ht1, h66_0⟩
     have HONE66 := Lib.hid h66_0
     clear h66_0
     refine hK.out _ _ ht1 (fun ht => ?_)
     clear hK K ht1
     try simp only [Act.put, List.setIfInBounds_toArray, List.set_cons_zero, List.set_cons_succ]
     obtain ⟨r66, hr66⟩ : ∃ g, g = wd.heap.size := ⟨_, rfl⟩
     rw [← hr66] at HONE66 ⊢
     clear hr66
     refine wpAnyH_ready (rs := [0, 11]) (by kernel_rfl) (by simp) ?_
     refine AllReadyH.cons (o := ⟨some _, _, _, _, _, _⟩) rfl (fun K hK => ?_) (AllReadyH.cons (o := ⟨some _, _, _, _, _, _⟩) rfl (fun K hK => ?_) (AllReadyH.nil))
     ·go_simp
      refine via14 (K := K) (fun W9 => Below w9.heap.size w9 W9 ∧ W9.ownsRow w9.heap.size 31 8 (.slice (some ⟨x66.heap.size, 0, none⟩) 0 0) 0 [] ∧ ZAt14 #[.int .i64 q_1, .bool q_2, .bool q_3, .string ⟨q_4.toArray⟩, .int .i64 q_5, .string ⟨q_6.toArray⟩, .slice q_7 q_8 q_9, .slice q_a q_b q_c] W9 w9.heap.size r66 (some ⟨x66.heap.size, 0, none⟩)) ⟨ht.alloc ht.size _, World.ownsRow_lit x66 #[] 0 ht.size (by unfold maxLen; omega) rfl, ZAt14.row HONE66.out _⟩ ?_
      rintro x67 ⟨ht1, h67_0, h67_1⟩
      have Hown67 := Lib.hid h67_0
      have HONE67 := Lib.hid h67_1
      clear h67_0 h67_1
      refine hK.out _ _ ht1 (fun ht => ?_)
      clear hK K ht1
      try simp only [Act.put, List.setIfInBounds_toArray, List.set_cons_zero, List.set_cons_succ]
      obtain ⟨r67, hr67⟩ : ∃ g, g = x66.heap.size := ⟨_, rfl⟩
      rw [← hr67] at Hown67 HONE67 ⊢
      clear hr67
      refine wpAnyH_ready (rs := [3, 11]) (by kernel_rfl) (by simp) ?_
      refine AllReadyH.cons (o := ⟨some _, _, _, _, _, _⟩) rfl (fun K hK => ?_) (AllReadyH.cons (o := ⟨some _, _, _, _, _, _⟩) rfl (fun K hK => ?_) (AllReadyH.nil))
      ·refine step_append_src14 _ rfl _ _ _ rfl w9.heap.size 31 i0 _ 8 112 Tryz.underlying28 hi0 hz0 hz1 hz2 rfl (by omega) (.slice (some ⟨r67, 0, none⟩) 0 0) 0 [] rfl Hown67.out (some ⟨gx, ox, none⟩) lv.length k_9 fA rfl HLFA.out (HSA.out.keep ht) HONEA.out (by unfold maxLen; omega) (by omega) ht.size lv.length (by omega) ?_
       intro A68 c68 x68 hown hgr hat
       have ht1 := below_grown14 ht Hown67.out hgr
       have Hown68 := Lib.hid hown
       have HONE68 := Lib.hid (ZAt14.grown HONE67.out hgr hat)
       clear hown hgr hat
       refine hK.out _ _ ht1 (fun ht => ?_)
       clear hK K ht1
       try simp only [Act.put, List.setIfInBounds_toArray, List.set_cons_zero, List.set_cons_succ]
       refine wpAnyH_ready (rs := [9, 11]) (by kernel_rfl) (by simp) ?_
       refine AllReadyH.cons (o := ⟨some _, _, _, _, _, _⟩) rfl (fun K hK => ?_) (AllReadyH.cons (o := ⟨some _, _, _, _, _, _⟩) rfl (fun K hK => ?_) (AllReadyH.nil))
       ·refine step_append_src14 _ rfl _ _ _ rfl w9.heap.size 31 i0 _ 8 112 Tryz.underlying28 hi0 hz0 hz1 hz2 rfl (by omega) (.slice A68 lv.length c68) lv.length ([] ++ fA) rfl Hown68.out (some ⟨r66, 0, none⟩) 1 1 [.int .i64 q_1, .bool q_2, .bool q_3, .string ⟨q_4.toArray⟩, .int .i64 q_5, .string ⟨q_6.toArray⟩, .slice q_7 q_8 q_9, .slice q_a q_b q_c] rfl rfl (src_one14 (l := [.int .i64 q_1, .bool q_2, .bool q_3, .string ⟨q_4.toArray⟩, .int .i64 q_5, .string ⟨q_6.toArray⟩, .slice q_7 q_8 q_9, .slice q_a q_b q_c]) HONE68.out.blk) HONEX.out (by unfold maxLen; omega) (by omega) ht.size (lv.length + 1) (by omega) ?_
        intro A69 c69 x69 hown hgr hat
        have ht1 := below_grown14 ht Hown68.out hgr
        have Hown69 := Lib.hid hown
        have HONE69 := Lib.hid (ZAt14.grown HONE68.out hgr hat)
        clear hown hgr hat
        refine hK.out _ _ ht1 (fun ht => ?_)
        clear hK K ht1
        try simp only [Act.put, List.setIfInBounds_toArray, List.set_cons_zero, List.set_cons_succ]
        refine wpAnyH_take (i := 10) (oi := ⟨some _, _, _, _, _, _⟩) (v := (.agg #[.int .i64 4, .bool false, .bool false, .string ⟨#[]⟩, .int .i64 0, .string ⟨#[]⟩, .slice A69 (lv.length + 1) c69, .slice none 0 0])) rfl (by kernel_rfl) (by kernel_rfl) (by kernel_rfl) (fun _ _ _ h => h) (Or.inl ⟨by rfl, ?_⟩) ht ?_
        ·intro W9 hSw
         go_simp
        try simp only [Act.put, List.setIfInBounds_toArray, List.set_cons_zero, List.set_cons_succ]
        refine wpAnyH_ready (rs := [11]) (by kernel_rfl) (by simp) ?_
        refine AllReadyH.cons (o := ⟨some _, _, _, _, _, _⟩) rfl (fun K hK => ?_) (AllReadyH.nil)
        ·go_simp
         refine via14 (K := K) (fun W9 => Below w9.heap.size w9 W9 ∧ ZAt14 zero8 W9 w9.heap.size x69.heap.size A69 ∧ W9.ownsRow w9.heap.size 31 8 (.slice A69 (lv.length + 1) c69) (lv.length + 1) ([] ++ fA ++ [.int .i64 q_1, .bool q_2, .bool q_3, .string ⟨q_4.toArray⟩, .int .i64 q_5, .string ⟨q_6.toArray⟩, .slice q_7 q_8 q_9, .slice q_a q_b q_c]) ∧ ZAt14 #[.int .i64 q_1, .bool q_2, .bool q_3, .string ⟨q_4.toArray⟩, .int .i64 q_5, .string ⟨q_6.toArray⟩, .slice q_7 q_8 q_9, .slice q_a q_b q_c] W9 w9.heap.size r66 A69) ⟨ht.alloc ht.size _, ZAt14.new (w := x69) ht.size (own_lt14 Hown69.out), Hown69.out.alloc _, ZAt14.on HONE69.out _⟩ ?_
         rintro x70 ⟨ht1, h70_0, h70_1, h70_2⟩
         have HZ70 := Lib.hid h70_0
         have Hown70 := Lib.hid h70_1
         have HONE70 := Lib.hid h70_2
         clear h70_0 h70_1 h70_2
         refine hK.out _ _ ht1 (fun ht => ?_)
         clear hK K ht1
         try simp only [Act.put, List.setIfInBounds_toArray, List.set_cons_zero, List.set_cons_succ]
         obtain ⟨r70, hr70⟩ : ∃ g, g = x69.heap.size := ⟨_, rfl⟩
         rw [← hr70] at HZ70 ⊢
         clear hr70
         refine wpAnyH_ready (rs := [12]) (by kernel_rfl) (by simp) ?_
         refine AllReadyH.cons (o := ⟨none, _, _, _, _, _⟩) rfl (fun K hK => ?_) (AllReadyH.nil)
         ·obtain ⟨z0, z1, z2, z3, z4, z5, z6, z7⟩ := HZ70.out.blk.eight
          have zf := HZ70.out.blk.frozen
          have zl := HZ70.out.blk.lt
          go_simp
          refine via14 (K := K) (fun W9 => Below w9.heap.size w9 W9 ∧ Fin14 w9 lv [xh] r70 A69 c69 W9) ⟨below_set8 ht HZ70.out.ge _ _ _ _ _ _ _ _, fin14 HFLAT.out Hown70.out HZ70.out ht⟩ ?_
          rintro x71 ⟨ht1, hfin⟩
          have HFIN := Lib.hid hfin
          clear hfin z0 z1 z2 z3 z4 z5 z6 z7 zf zl
          refine hK.out _ _ ht1 (fun ht => ?_)
          clear hK K ht1
          try simp only [Act.put, List.setIfInBounds_toArray, List.set_cons_zero, List.set_cons_succ]
          refine wpAnyH_done (by kernel_rfl) ?_ _
          clear ht
          go_wp2_with fail
          go_meet
          case rel => exact ⟨r70, A69, c69, rfl, HFIN.out⟩
       ·go_simp
        refine via14 (K := K) (fun W9 => Below w9.heap.size w9 W9 ∧ ZAt14 zero8 W9 w9.heap.size x68.heap.size A68 ∧ W9.ownsRow w9.heap.size 31 8 (.slice A68 lv.length c68) lv.length ([] ++ fA) ∧ ZAt14 #[.int .i64 q_1, .bool q_2, .bool q_3, .string ⟨q_4.toArray⟩, .int .i64 q_5, .string ⟨q_6.toArray⟩, .slice q_7 q_8 q_9, .slice q_a q_b q_c] W9 w9.heap.size r66 A68) ⟨ht.alloc ht.size _, ZAt14.new (w := x68) ht.size (own_lt14 Hown68.out), Hown68.out.alloc _, ZAt14.on HONE68.out _⟩ ?_
        rintro x72 ⟨ht1, h72_0, h72_1, h72_2⟩
        have HZ72 := Lib.hid h72_0
        have Hown72 := Lib.hid h72_1
        have HONE72 := Lib.hid h72_2
        clear h72_0 h72_1 h72_2
        refine hK.out _ _ ht1 (fun ht => ?_)
        clear hK K ht1
        try simp only [Act.put, List.setIfInBounds_toArray, List.set_cons_zero, List.set_cons_succ]
        obtain ⟨r72, hr72⟩ : ∃ g, g = x68.heap.size := ⟨_, rfl⟩
        rw [← hr72] at HZ72 ⊢
        clear hr72
        refine wpAnyH_ready (rs := [9]) (by kernel_rfl) (by simp) ?_
        refine AllReadyH.cons (o := ⟨some _, _, _, _, _, _⟩) rfl (fun K hK => ?_) (AllReadyH.nil)
        ·refine step_append_src14 _ rfl _ _ _ rfl w9.heap.size 31 i0 _ 8 112 Tryz.underlying28 hi0 hz0 hz1 hz2 rfl (by omega) (.slice A68 lv.length c68) lv.length ([] ++ fA) rfl Hown72.out (some ⟨r66, 0, none⟩) 1 1 [.int .i64 q_1, .bool q_2, .bool q_3, .string ⟨q_4.toArray⟩, .int .i64 q_5, .string ⟨q_6.toArray⟩, .slice q_7 q_8 q_9, .slice q_a q_b q_c] rfl rfl (src_one14 (l := [.int .i64 q_1, .bool q_2, .bool q_3, .string ⟨q_4.toArray⟩, .int .i64 q_5, .string ⟨q_6.toArray⟩, .slice q_7 q_8 q_9, .slice q_a q_b q_c]) HONE72.out.blk) HONEX.out (by unfold maxLen; omega) (by omega) ht.size (lv.length + 1) (by omega) ?_
         intro A73 c73 x73 hown hgr hat
         have ht1 := below_grown14 ht Hown72.out hgr
         have Hown73 := Lib.hid hown
         have HZ73 := Lib.hid (ZAt14.grown HZ72.out hgr hat)
         have HONE73 := Lib.hid (ZAt14.grown HONE72.out hgr hat)
         clear hown hgr hat
         refine hK.out _ _ ht1 (fun ht => ?_)
         clear hK K ht1
         try simp only [Act.put, List.setIfInBounds_toArray, List.set_cons_zero, List.set_cons_succ]
         refine wpAnyH_take (i := 10) (oi := ⟨some _, _, _, _, _, _⟩) (v := (.agg #[.int .i64 4, .bool false, .bool false, .string ⟨#[]⟩, .int .i64 0, .string ⟨#[]⟩, .slice A73 (lv.length + 1) c73, .slice none 0 0])) rfl (by kernel_rfl) (by kernel_rfl) (by kernel_rfl) (fun _ _ _ h => h) (Or.inl ⟨by rfl, ?_⟩) ht ?_
         ·intro W9 hSw
          go_simp
         try simp only [Act.put, List.setIfInBounds_toArray, List.set_cons_zero, List.set_cons_succ]
         refine wpAnyH_ready (rs := [12]) (by kernel_rfl) (by simp) ?_
         refine AllReadyH.cons (o := ⟨none, _, _, _, _, _⟩) rfl (fun K hK => ?_) (AllReadyH.nil)
         ·obtain ⟨z0, z1, z2, z3, z4, z5, z6, z7⟩ := HZ73.out.blk.eight
          have zf := HZ73.out.blk.frozen
          have zl := HZ73.out.blk.lt
          go_simp
          refine via14 (K := K) (fun W9 => Below w9.heap.size w9 W9 ∧ Fin14 w9 lv [xh] r72 A73 c73 W9) ⟨below_set8 ht HZ73.out.ge _ _ _ _ _ _ _ _, fin14 HFLAT.out Hown73.out HZ73.out ht⟩ ?_
          rintro x74 ⟨ht1, hfin⟩
          have HFIN := Lib.hid hfin
          clear hfin z0 z1 z2 z3 z4 z5 z6 z7 zf zl
          refine hK.out _ _ ht1 (fun ht => ?_)
          clear hK K ht1
          try simp only [Act.put, List.setIfInBounds_toArray, List.set_cons_zero, List.set_cons_succ]
          refine wpAnyH_done (by kernel_rfl) ?_ _
          clear ht
          go_wp2_with fail
          go_meet
          case rel => exact ⟨r72, A73, c73, rfl, HFIN.out⟩
      ·go_simp
       refine via14 (K := K) (fun W9 => Below w9.heap.size w9 W9 ∧ ZAt14 zero8 W9 w9.heap.size x67.heap.size (some ⟨r67, 0, none⟩) ∧ W9.ownsRow w9.heap.size 31 8 (.slice (some ⟨r67, 0, none⟩) 0 0) 0 [] ∧ ZAt14 #[.int .i64 q_1, .bool q_2, .bool q_3, .string ⟨q_4.toArray⟩, .int .i64 q_5, .string ⟨q_6.toArray⟩, .slice q_7 q_8 q_9, .slice q_a q_b q_c] W9 w9.heap.size r66 (some ⟨r67, 0, none⟩)) ⟨ht.alloc ht.size _, ZAt14.new (w := x67) ht.size (own_lt14 Hown67.out), Hown67.out.alloc _, ZAt14.on HONE67.out _⟩ ?_
       rintro x75 ⟨ht1, h75_0, h75_1, h75_2⟩
       have HZ75 := Lib.hid h75_0
       have Hown75 := Lib.hid h75_1
       have HONE75 := Lib.hid h75_2
       clear h75_0 h75_1 h75_2
       refine hK.out _ _ ht1 (fun ht => ?_)
       clear hK K ht1
       try simp only [Act.put, List.setIfInBounds_toArray, List.set_cons_zero, List.set_cons_succ]
       obtain ⟨r75, hr75⟩ : ∃ g, g = x67.heap.size := ⟨_, rfl⟩
       rw [← hr75] at HZ75 ⊢
       clear hr75
       refine wpAnyH_ready (rs := [3]) (by kernel_rfl) (by simp) ?_
       refine AllReadyH.cons (o := ⟨some _, _, _, _, _, _⟩) rfl (fun K hK => ?_) (AllReadyH.nil)
       ·refine step_append_src14 _ rfl _ _ _ rfl w9.heap.size 31 i0 _ 8 112 Tryz.underlying28 hi0 hz0 hz1 hz2 rfl (by omega) (.slice (some ⟨r67, 0, none⟩) 0 0) 0 [] rfl Hown75.out (some ⟨gx, ox, none⟩) lv.length k_9 fA rfl HLFA.out (HSA.out.keep ht) HONEA.out (by unfold maxLen; omega) (by omega) ht.size lv.length (by omega) ?_
        intro A76 c76 x76 hown hgr hat
        have ht1 := below_grown14 ht Hown75.out hgr
        have Hown76 := Lib.hid hown
        have HZ76 := Lib.hid (ZAt14.grown HZ75.out hgr hat)
        have HONE76 := Lib.hid (ZAt14.grown HONE75.out hgr hat)
        clear hown hgr hat
        refine hK.out _ _ ht1 (fun ht => ?_)
        clear hK K ht1
        try simp only [Act.put, List.setIfInBounds_toArray, List.set_cons_zero, List.set_cons_succ]
        refine wpAnyH_ready (rs := [9]) (by kernel_rfl) (by simp) ?_
        refine AllReadyH.cons (o := ⟨some _, _, _, _, _, _⟩) rfl (fun K hK => ?_) (AllReadyH.nil)
        ·refine step_append_src14 _ rfl _ _ _ rfl w9.heap.size 31 i0 _ 8 112 Tryz.underlying28 hi0 hz0 hz1 hz2 rfl (by omega) (.slice A76 lv.length c76) lv.length ([] ++ fA) rfl Hown76.out (some ⟨r66, 0, none⟩) 1 1 [.int .i64 q_1, .bool q_2, .bool q_3, .string ⟨q_4.toArray⟩, .int .i64 q_5, .string ⟨q_6.toArray⟩, .slice q_7 q_8 q_9, .slice q_a q_b q_c] rfl rfl (src_one14 (l := [.int .i64 q_1, .bool q_2, .bool q_3, .string ⟨q_4.toArray⟩, .int .i64 q_5, .string ⟨q_6.toArray⟩, .slice q_7 q_8 q_9, .slice q_a q_b q_c]) HONE76.out.blk) HONEX.out (by unfold maxLen; omega) (by omega) ht.size (lv.length + 1) (by omega) ?_
         intro A77 c77 x77 hown hgr hat
         have ht1 := below_grown14 ht Hown76.out hgr
         have Hown77 := Lib.hid hown
         have HZ77 := Lib.hid (ZAt14.grown HZ76.out hgr hat)
         have HONE77 := Lib.hid (ZAt14.grown HONE76.out hgr hat)
         clear hown hgr hat
         refine hK.out _ _ ht1 (fun ht => ?_)
         clear hK K ht1
         try simp only [Act.put, List.setIfInBounds_toArray, List.set_cons_zero, List.set_cons_succ]
         refine wpAnyH_take (i := 10) (oi := ⟨some _, _, _, _, _, _⟩) (v := (.agg #[.int .i64 4, .bool false, .bool false, .string ⟨#[]⟩, .int .i64 0, .string ⟨#[]⟩, .slice A77 (lv.length + 1) c77, .slice none 0 0])) rfl (by kernel_rfl) (by kernel_rfl) (by kernel_rfl) (fun _ _ _ h => h) (Or.inl ⟨by rfl, ?_⟩) ht ?_
         ·intro W9 hSw
          go_simp
         try simp only [Act.put, List.setIfInBounds_toArray, List.set_cons_zero, List.set_cons_succ]
         refine wpAnyH_ready (rs := [12]) (by kernel_rfl) (by simp) ?_
         refine AllReadyH.cons (o := ⟨none, _, _, _, _, _⟩) rfl (fun K hK => ?_) (AllReadyH.nil)
         ·obtain ⟨z0, z1, z2, z3, z4, z5, z6, z7⟩ := HZ77.out.blk.eight
          have zf := HZ77.out.blk.frozen
          have zl := HZ77.out.blk.lt
          go_simp
          refine via14 (K := K) (fun W9 => Below w9.heap.size w9 W9 ∧ Fin14 w9 lv [xh] r75 A77 c77 W9) ⟨below_set8 ht HZ77.out.ge _ _ _ _ _ _ _ _, fin14 HFLAT.out Hown77.out HZ77.out ht⟩ ?_
          rintro x78 ⟨ht1, hfin⟩
          have HFIN := Lib.hid hfin
          clear hfin z0 z1 z2 z3 z4 z5 z6 z7 zf zl
          refine hK.out _ _ ht1 (fun ht => ?_)
          clear hK K ht1
          try simp only [Act.put, List.setIfInBounds_toArray, List.set_cons_zero, List.set_cons_succ]
          refine wpAnyH_done (by kernel_rfl) ?_ _
          clear ht
          go_wp2_with fail
          go_meet
          case rel => exact ⟨r75, A77, c77, rfl, HFIN.out⟩
     ·go_simp
      refine via14 (K := K) (fun W9 => Below w9.heap.size w9 W9 ∧ ZAt14 zero8 W9 w9.heap.size x66.heap.size none ∧ ZAt14 #[.int .i64 q_1, .bool q_2, .bool q_3, .string ⟨q_4.toArray⟩, .int .i64 q_5, .string ⟨q_6.toArray⟩, .slice q_7 q_8 q_9, .slice q_a q_b q_c] W9 w9.heap.size r66 none) ⟨ht.alloc ht.size _, ZAt14.new (w := x66) ht.size (fun ad e => by cases e), ZAt14.on HONE66.out _⟩ ?_
      rintro x79 ⟨ht1, h79_0, h79_1⟩
      have HZ79 := Lib.hid h79_0
      have HONE79 := Lib.hid h79_1
      clear h79_0 h79_1
      refine hK.out _ _ ht1 (fun ht => ?_)
      clear hK K ht1
      try simp only [Act.put, List.setIfInBounds_toArray, List.set_cons_zero, List.set_cons_succ]
      obtain ⟨r79, hr79⟩ : ∃ g, g = x66.heap.size := ⟨_, rfl⟩
      rw [← hr79] at HZ79 ⊢
      clear hr79
      refine wpAnyH_ready (rs := [0]) (by kernel_rfl) (by simp) ?_
      refine AllReadyH.cons (o := ⟨some _, _, _, _, _, _⟩) rfl (fun K hK => ?_) (AllReadyH.nil)
      ·go_simp
       refine via14 (K := K) (fun W9 => Below w9.heap.size w9 W9 ∧ W9.ownsRow w9.heap.size 31 8 (.slice (some ⟨x79.heap.size, 0, none⟩) 0 0) 0 [] ∧ ZAt14 zero8 W9 w9.heap.size r79 (some ⟨x79.heap.size, 0, none⟩) ∧ ZAt14 #[.int .i64 q_1, .bool q_2, .bool q_3, .string ⟨q_4.toArray⟩, .int .i64 q_5, .string ⟨q_6.toArray⟩, .slice q_7 q_8 q_9, .slice q_a q_b q_c] W9 w9.heap.size r66 (some ⟨x79.heap.size, 0, none⟩)) ⟨ht.alloc ht.size _, World.ownsRow_lit x79 #[] 0 ht.size (by unfold maxLen; omega) rfl, ZAt14.row HZ79.out _, ZAt14.row HONE79.out _⟩ ?_
       rintro x80 ⟨ht1, h80_0, h80_1, h80_2⟩
       have Hown80 := Lib.hid h80_0
       have HZ80 := Lib.hid h80_1
       have HONE80 := Lib.hid h80_2
       clear h80_0 h80_1 h80_2
       refine hK.out _ _ ht1 (fun ht => ?_)
       clear hK K ht1
       try simp only [Act.put, List.setIfInBounds_toArray, List.set_cons_zero, List.set_cons_succ]
       obtain ⟨r80, hr80⟩ : ∃ g, g = x79.heap.size := ⟨_, rfl⟩
       rw [← hr80] at Hown80 HZ80 HONE80 ⊢
       clear hr80
       refine wpAnyH_ready (rs := [3]) (by kernel_rfl) (by simp) ?_
       refine AllReadyH.cons (o := ⟨some _, _, _, _, _, _⟩) rfl (fun K hK => ?_) (AllReadyH.nil)
       ·refine step_append_src14 _ rfl _ _ _ rfl w9.heap.size 31 i0 _ 8 112 Tryz.underlying28 hi0 hz0 hz1 hz2 rfl (by omega) (.slice (some ⟨r80, 0, none⟩) 0 0) 0 [] rfl Hown80.out (some ⟨gx, ox, none⟩) lv.length k_9 fA rfl HLFA.out (HSA.out.keep ht) HONEA.out (by unfold maxLen; omega) (by omega) ht.size lv.length (by omega) ?_
        intro A81 c81 x81 hown hgr hat
        have ht1 := below_grown14 ht Hown80.out hgr
        have Hown81 := Lib.hid hown
        have HZ81 := Lib.hid (ZAt14.grown HZ80.out hgr hat)
        have HONE81 := Lib.hid (ZAt14.grown HONE80.out hgr hat)
        clear hown hgr hat
        refine hK.out _ _ ht1 (fun ht => ?_)
        clear hK K ht1
        try simp only [Act.put, List.setIfInBounds_toArray, List.set_cons_zero, List.set_cons_succ]
        refine wpAnyH_ready (rs := [9]) (by kernel_rfl) (by simp) ?_
        refine AllReadyH.cons (o := ⟨some _, _, _, _, _, _⟩) rfl (fun K hK => ?_) (AllReadyH.nil)
        ·refine step_append_src14 _ rfl _ _ _ rfl w9.heap.size 31 i0 _ 8 112 Tryz.underlying28 hi0 hz0 hz1 hz2 rfl (by omega) (.slice A81 lv.length c81) lv.length ([] ++ fA) rfl Hown81.out (some ⟨r66, 0, none⟩) 1 1 [.int .i64 q_1, .bool q_2, .bool q_3, .string ⟨q_4.toArray⟩, .int .i64 q_5, .string ⟨q_6.toArray⟩, .slice q_7 q_8 q_9, .slice q_a q_b q_c] rfl rfl (src_one14 (l := [.int .i64 q_1, .bool q_2, .bool q_3, .string ⟨q_4.toArray⟩, .int .i64 q_5, .string ⟨q_6.toArray⟩, .slice q_7 q_8 q_9, .slice q_a q_b q_c]) HONE81.out.blk) HONEX.out (by unfold maxLen; omega) (by omega) ht.size (lv.length + 1) (by omega) ?_
         intro A82 c82 x82 hown hgr hat
         have ht1 := below_grown14 ht Hown81.out hgr
         have Hown82 := Lib.hid hown
         have HZ82 := Lib.hid (ZAt14.grown HZ81.out hgr hat)
         have HONE82 := Lib.hid (ZAt14.grown HONE81.out hgr hat)
         clear hown hgr hat
         refine hK.out _ _ ht1 (fun ht => ?_)
         clear hK K ht1
         try simp only [Act.put, List.setIfInBounds_toArray, List.set_cons_zero, List.set_cons_succ]
         refine wpAnyH_take (i := 10) (oi := ⟨some _, _, _, _, _, _⟩) (v := (.agg #[.int .i64 4, .bool false, .bool false, .string ⟨#[]⟩, .int .i64 0, .string ⟨#[]⟩, .slice A82 (lv.length + 1) c82, .slice none 0 0])) rfl (by kernel_rfl) (by kernel_rfl) (by kernel_rfl) (fun _ _ _ h => h) (Or.inl ⟨by rfl, ?_⟩) ht ?_
         ·intro W9 hSw
          go_simp
         try simp only [Act.put, List.setIfInBounds_toArray, List.set_cons_zero, List.set_cons_succ]
         refine wpAnyH_ready (rs := [12]) (by kernel_rfl) (by simp) ?_
         refine AllReadyH.cons (o := ⟨none, _, _, _, _, _⟩) rfl (fun K hK => ?_) (AllReadyH.nil)
         ·obtain ⟨z0, z1, z2, z3, z4, z5, z6, z7⟩ := HZ82.out.blk.eight
          have zf := HZ82.out.blk.frozen
          have zl := HZ82.out.blk.lt
          go_simp
          refine via14 (K := K) (fun W9 => Below w9.heap.size w9 W9 ∧ Fin14 w9 lv [xh] r79 A82 c82 W9) ⟨below_set8 ht HZ82.out.ge _ _ _ _ _ _ _ _, fin14 HFLAT.out Hown82.out HZ82.out ht⟩ ?_
          rintro x83 ⟨ht1, hfin⟩
          have HFIN := Lib.hid hfin
          clear hfin z0 z1 z2 z3 z4 z5 z6 z7 zf zl
          refine hK.out _ _ ht1 (fun ht => ?_)
          clear hK K ht1
          try simp only [Act.put, List.setIfInBounds_toArray, List.set_cons_zero, List.set_cons_succ]
          refine wpAnyH_done (by kernel_rfl) ?_ _
          clear ht
          go_wp2_with fail
          go_meet
          case rel => exact ⟨r79, A82, c82, rfl, HFIN.out⟩
    ·go_simp
     refine via14 (K := K) (fun W9 => Below w9.heap.size w9 W9 ∧ ZAt14 zero8 W9 w9.heap.size wd.heap.size none) ⟨ht.alloc ht.size _, ZAt14.new (w := wd) ht.size (fun ad e => by cases e)⟩ ?_
     rintro x84 ⟨ht1, h84_0⟩
     have HZ84 := Lib.hid h84_0
     clear h84_0
     refine hK.out _ _ ht1 (fun ht => ?_)
     clear hK K ht1
     try simp only [Act.put, List.setIfInBounds_toArray, List.set_cons_zero, List.set_cons_succ]
     obtain ⟨r84, hr84⟩ : ∃ g, g = wd.heap.size := ⟨_, rfl⟩
     rw [← hr84] at HZ84 ⊢
     clear hr84
     refine wpAnyH_ready (rs := [0, 8]) (by kernel_rfl) (by simp) ?_
     refine AllReadyH.cons (o := ⟨some _, _, _, _, _, _⟩) rfl (fun K hK => ?_) (AllReadyH.cons (o := ⟨some _, _, _, _, _, _⟩) rfl (fun K hK => ?_) (AllReadyH.nil))
     ·go_simp
      refine via14 (K := K) (fun W9 => Below w9.heap.size w9 W9 ∧ W9.ownsRow w9.heap.size 31 8 (.slice (some ⟨x84.heap.size, 0, none⟩) 0 0) 0 [] ∧ ZAt14 zero8 W9 w9.heap.size r84 (some ⟨x84.heap.size, 0, none⟩)) ⟨ht.alloc ht.size _, World.ownsRow_lit x84 #[] 0 ht.size (by unfold maxLen; omega) rfl, ZAt14.row HZ84.out _⟩ ?_
      rintro x85 ⟨ht1, h85_0, h85_1⟩
      have Hown85 := Lib.hid h85_0
      have HZ85 := Lib.hid h85_1
      clear h85_0 h85_1
      refine hK.out _ _ ht1 (fun ht => ?_)
      clear hK K ht1
      try simp only [Act.put, List.setIfInBounds_toArray, List.set_cons_zero, List.set_cons_succ]
      obtain ⟨r85, hr85⟩ : ∃ g, g = x84.heap.size := ⟨_, rfl⟩
      rw [← hr85] at Hown85 HZ85 ⊢
      clear hr85
      refine wpAnyH_ready (rs := [3, 8]) (by kernel_rfl) (by simp) ?_
      refine AllReadyH.cons (o := ⟨some _, _, _, _, _, _⟩) rfl (fun K hK => ?_) (AllReadyH.cons (o := ⟨some _, _, _, _, _, _⟩) rfl (fun K hK => ?_) (AllReadyH.nil))
      ·refine step_append_src14 _ rfl _ _ _ rfl w9.heap.size 31 i0 _ 8 112 Tryz.underlying28 hi0 hz0 hz1 hz2 rfl (by omega) (.slice (some ⟨r85, 0, none⟩) 0 0) 0 [] rfl Hown85.out (some ⟨gx, ox, none⟩) lv.length k_9 fA rfl HLFA.out (HSA.out.keep ht) HONEA.out (by unfold maxLen; omega) (by omega) ht.size lv.length (by omega) ?_
       intro A86 c86 x86 hown hgr hat
       have ht1 := below_grown14 ht Hown85.out hgr
       have Hown86 := Lib.hid hown
       have HZ86 := Lib.hid (ZAt14.grown HZ85.out hgr hat)
       clear hown hgr hat
       refine hK.out _ _ ht1 (fun ht => ?_)
       clear hK K ht1
       try simp only [Act.put, List.setIfInBounds_toArray, List.set_cons_zero, List.set_cons_succ]
       refine wpAnyH_ready (rs := [8]) (by kernel_rfl) (by simp) ?_
       refine AllReadyH.cons (o := ⟨some _, _, _, _, _, _⟩) rfl (fun K hK => ?_) (AllReadyH.nil)
       ·go_simp
        refine via14 (K := K) (fun W9 => Below w9.heap.size w9 W9 ∧ ZAt14 #[.int .i64 q_1, .bool q_2, .bool q_3, .string ⟨q_4.toArray⟩, .int .i64 q_5, .string ⟨q_6.toArray⟩, .slice q_7 q_8 q_9, .slice q_a q_b q_c] W9 w9.heap.size x86.heap.size A86 ∧ W9.ownsRow w9.heap.size 31 8 (.slice A86 lv.length c86) lv.length ([] ++ fA) ∧ ZAt14 zero8 W9 w9.heap.size r84 A86) ⟨ht.alloc ht.size _, ZAt14.new (w := x86) ht.size (own_lt14 Hown86.out), Hown86.out.alloc _, ZAt14.on HZ86.out _⟩ ?_
        rintro x87 ⟨ht1, h87_0, h87_1, h87_2⟩
        have HONE87 := Lib.hid h87_0
        have Hown87 := Lib.hid h87_1
        have HZ87 := Lib.hid h87_2
        clear h87_0 h87_1 h87_2
        refine hK.out _ _ ht1 (fun ht => ?_)
        clear hK K ht1
        try simp only [Act.put, List.setIfInBounds_toArray, List.set_cons_zero, List.set_cons_succ]
        obtain ⟨r87, hr87⟩ : ∃ g, g = x86.heap.size := ⟨_, rfl⟩
        rw [← hr87] at HONE87 ⊢
        clear hr87
        refine wpAnyH_ready (rs := [9]) (by kernel_rfl) (by simp) ?_
        refine AllReadyH.cons (o := ⟨some _, _, _, _, _, _⟩) rfl (fun K hK => ?_) (AllReadyH.nil)
        ·refine step_append_src14 _ rfl _ _ _ rfl w9.heap.size 31 i0 _ 8 112 Tryz.underlying28 hi0 hz0 hz1 hz2 rfl (by omega) (.slice A86 lv.length c86) lv.length ([] ++ fA) rfl Hown87.out (some ⟨r87, 0, none⟩) 1 1 [.int .i64 q_1, .bool q_2, .bool q_3, .string ⟨q_4.toArray⟩, .int .i64 q_5, .string ⟨q_6.toArray⟩, .slice q_7 q_8 q_9, .slice q_a q_b q_c] rfl rfl (src_one14 (l := [.int .i64 q_1, .bool q_2, .bool q_3, .string ⟨q_4.toArray⟩, .int .i64 q_5, .string ⟨q_6.toArray⟩, .slice q_7 q_8 q_9, .slice q_a q_b q_c]) HONE87.out.blk) HONEX.out (by unfold maxLen; omega) (by omega) ht.size (lv.length + 1) (by omega) ?_
         intro A88 c88 x88 hown hgr hat
         have ht1 := below_grown14 ht Hown87.out hgr
         have Hown88 := Lib.hid hown
         have HZ88 := Lib.hid (ZAt14.grown HZ87.out hgr hat)
         have HONE88 := Lib.hid (ZAt14.grown HONE87.out hgr hat)
         clear hown hgr hat
         refine hK.out _ _ ht1 (fun ht => ?_)
         clear hK K ht1
         try simp only [Act.put, List.setIfInBounds_toArray, List.set_cons_zero, List.set_cons_succ]
         refine wpAnyH_take (i := 10) (oi := ⟨some _, _, _, _, _, _⟩) (v := (.agg #[.int .i64 4, .bool false, .bool false, .string ⟨#[]⟩, .int .i64 0, .string ⟨#[]⟩, .slice A88 (lv.length + 1) c88, .slice none 0 0])) rfl (by kernel_rfl) (by kernel_rfl) (by kernel_rfl) (fun _ _ _ h => h) (Or.inl ⟨by rfl, ?_⟩) ht ?_
         ·intro W9 hSw
          go_simp
         try simp only [Act.put, List.setIfInBounds_toArray, List.set_cons_zero, List.set_cons_succ]
         refine wpAnyH_ready (rs := [12]) (by kernel_rfl) (by simp) ?_
         refine AllReadyH.cons (o := ⟨none, _, _, _, _, _⟩) rfl (fun K hK => ?_) (AllReadyH.nil)
         ·obtain ⟨z0, z1, z2, z3, z4, z5, z6, z7⟩ := HZ88.out.blk.eight
          have zf := HZ88.out.blk.frozen
          have zl := HZ88.out.blk.lt
          go_simp
          refine via14 (K := K) (fun W9 => Below w9.heap.size w9 W9 ∧ Fin14 w9 lv [xh] r84 A88 c88 W9) ⟨below_set8 ht HZ88.out.ge _ _ _ _ _ _ _ _, fin14 HFLAT.out Hown88.out HZ88.out ht⟩ ?_
          rintro x89 ⟨ht1, hfin⟩
          have HFIN := Lib.hid hfin
          clear hfin z0 z1 z2 z3 z4 z5 z6 z7 zf zl
          refine hK.out _ _ ht1 (fun ht => ?_)
          clear hK K ht1
          try simp only [Act.put, List.setIfInBounds_toArray, List.set_cons_zero, List.set_cons_succ]
          refine wpAnyH_done (by kernel_rfl) ?_ _
          clear ht
          go_wp2_with fail
          go_meet
          case rel => exact ⟨r84, A88, c88, rfl, HFIN.out⟩
      ·go_simp
       refine via14 (K := K) (fun W9 => Below w9.heap.size w9 W9 ∧ ZAt14 #[.int .i64 q_1, .bool q_2, .bool q_3, .string ⟨q_4.toArray⟩, .int .i64 q_5, .string ⟨q_6.toArray⟩, .slice q_7 q_8 q_9, .slice q_a q_b q_c] W9 w9.heap.size x85.heap.size (some ⟨r85, 0, none⟩) ∧ W9.ownsRow w9.heap.size 31 8 (.slice (some ⟨r85, 0, none⟩) 0 0) 0 [] ∧ ZAt14 zero8 W9 w9.heap.size r84 (some ⟨r85, 0, none⟩)) ⟨ht.alloc ht.size _, ZAt14.new (w := x85) ht.size (own_lt14 Hown85.out), Hown85.out.alloc _, ZAt14.on HZ85.out _⟩ ?_
       rintro x90 ⟨ht1, h90_0, h90_1, h90_2⟩
       have HONE90 := Lib.hid h90_0
       have Hown90 := Lib.hid h90_1
       have HZ90 := Lib.hid h90_2
       clear h90_0 h90_1 h90_2
       refine hK.out _ _ ht1 (fun ht => ?_)
       clear hK K ht1
       try simp only [Act.put, List.setIfInBounds_toArray, List.set_cons_zero, List.set_cons_succ]
       obtain ⟨r90, hr90⟩ : ∃ g, g = x85.heap.size := ⟨_, rfl⟩
       rw [← hr90] at HONE90 ⊢
       clear hr90
       refine wpAnyH_ready (rs := [3]) (by kernel_rfl) (by simp) ?_
       refine AllReadyH.cons (o := ⟨some _, _, _, _, _, _⟩) rfl (fun K hK => ?_) (AllReadyH.nil)
       ·refine step_append_src14 _ rfl _ _ _ rfl w9.heap.size 31 i0 _ 8 112 Tryz.underlying28 hi0 hz0 hz1 hz2 rfl (by omega) (.slice (some ⟨r85, 0, none⟩) 0 0) 0 [] rfl Hown90.out (some ⟨gx, ox, none⟩) lv.length k_9 fA rfl HLFA.out (HSA.out.keep ht) HONEA.out (by unfold maxLen; omega) (by omega) ht.size lv.length (by omega) ?_
        intro A91 c91 x91 hown hgr hat
        have ht1 := below_grown14 ht Hown90.out hgr
        have Hown91 := Lib.hid hown
        have HZ91 := Lib.hid (ZAt14.grown HZ90.out hgr hat)
        have HONE91 := Lib.hid (ZAt14.grown HONE90.out hgr hat)
        clear hown hgr hat
        refine hK.out _ _ ht1 (fun ht => ?_)
        clear hK K ht1
        try simp only [Act.put, List.setIfInBounds_toArray, List.set_cons_zero, List.set_cons_succ]
        refine wpAnyH_ready (rs := [9]) (by kernel_rfl) (by simp) ?_
        refine AllReadyH.cons (o := ⟨some _, _, _, _, _, _⟩) rfl (fun K hK => ?_) (AllReadyH.nil)
        ·refine step_append_src14 _ rfl _ _ _ rfl w9.heap.size 31 i0 _ 8 112 Tryz.underlying28 hi0 hz0 hz1 hz2 rfl (by omega) (.slice A91 lv.length c91) lv.length ([] ++ fA) rfl Hown91.out (some ⟨r90, 0, none⟩) 1 1 [.int .i64 q_1, .bool q_2, .bool q_3, .string ⟨q_4.toArray⟩, .int .i64 q_5, .string ⟨q_6.toArray⟩, .slice q_7 q_8 q_9, .slice q_a q_b q_c] rfl rfl (src_one14 (l := [.int .i64 q_1, .bool q_2, .bool q_3, .string ⟨q_4.toArray⟩, .int .i64 q_5, .string ⟨q_6.toArray⟩, .slice q_7 q_8 q_9, .slice q_a q_b q_c]) HONE91.out.blk) HONEX.out (by unfold maxLen; omega) (by omega) ht.size (lv.length + 1) (by omega) ?_
         intro A92 c92 x92 hown hgr hat
         have ht1 := below_grown14 ht Hown91.out hgr
         have Hown92 := Lib.hid hown
         have HZ92 := Lib.hid (ZAt14.grown HZ91.out hgr hat)
         have HONE92 := Lib.hid (ZAt14.grown HONE91.out hgr hat)
         clear hown hgr hat
         refine hK.out _ _ ht1 (fun ht => ?_)
         clear hK K ht1
         try simp only [Act.put, List.setIfInBounds_toArray, List.set_cons_zero, List.set_cons_succ]
         refine wpAnyH_take (i := 10) (oi := ⟨some _, _, _, _, _, _⟩) (v := (.agg #[.int .i64 4, .bool false, .bool false, .string ⟨#[]⟩, .int .i64 0, .string ⟨#[]⟩, .slice A92 (lv.length + 1) c92, .slice none 0 0])) rfl (by kernel_rfl) (by kernel_rfl) (by kernel_rfl) (fun _ _ _ h => h) (Or.inl ⟨by rfl, ?_⟩) ht ?_
         ·intro W9 hSw
          go_simp
         try simp only [Act.put, List.setIfInBounds_toArray, List.set_cons_zero, List.set_cons_succ]
         refine wpAnyH_ready (rs := [12]) (by kernel_rfl) (by simp) ?_
         refine AllReadyH.cons (o := ⟨none, _, _, _, _, _⟩) rfl (fun K hK => ?_) (AllReadyH.nil)
         ·obtain ⟨z0, z1, z2, z3, z4, z5, z6, z7⟩ := HZ92.out.blk.eight
          have zf := HZ92.out.blk.frozen
          have zl := HZ92.out.blk.lt
          go_simp
          refine via14 (K := K) (fun W9 => Below w9.heap.size w9 W9 ∧ Fin14 w9 lv [xh] r84 A92 c92 W9) ⟨below_set8 ht HZ92.out.ge _ _ _ _ _ _ _ _, fin14 HFLAT.out Hown92.out HZ92.out ht⟩ ?_
          rintro x93 ⟨ht1, hfin⟩
          have HFIN := Lib.hid hfin
          clear hfin z0 z1 z2 z3 z4 z5 z6 z7 zf zl
          refine hK.out _ _ ht1 (fun ht => ?_)
          clear hK K ht1
          try simp only [Act.put, List.setIfInBounds_toArray, List.set_cons_zero, List.set_cons_succ]
          refine wpAnyH_done (by kernel_rfl) ?_ _
          clear ht
          go_wp2_with fail
          go_meet
          case rel => exact ⟨r84, A92, c92, rfl, HFIN.out⟩
     ·go_simp
      refine via14 (K := K) (fun W9 => Below w9.heap.size w9 W9 ∧ ZAt14 #[.int .i64 q_1, .bool q_2, .bool q_3, .string ⟨q_4.toArray⟩, .int .i64 q_5, .string ⟨q_6.toArray⟩, .slice q_7 q_8 q_9, .slice q_a q_b q_c] W9 w9.heap.size x84.heap.size none ∧ ZAt14 zero8 W9 w9.heap.size r84 none) ⟨ht.alloc ht.size _, ZAt14.new (w := x84) ht.size (fun ad e => by cases e), ZAt14.on HZ84.out _⟩ ?_
      rintro x94 ⟨ht1, h94_0, h94_1⟩
      have HONE94 := Lib.hid h94_0
      have HZ94 := Lib.hid h94_1
      clear h94_0 h94_1
      refine hK.out _ _ ht1 (fun ht => ?_)
      clear hK K ht1
      try simp only [Act.put, List.setIfInBounds_toArray, List.set_cons_zero, List.set_cons_succ]
      obtain ⟨r94, hr94⟩ : ∃ g, g = x84.heap.size := ⟨_, rfl⟩
      rw [← hr94] at HONE94 ⊢
      clear hr94
      refine wpAnyH_ready (rs := [0]) (by kernel_rfl) (by simp) ?_
      refine AllReadyH.cons (o := ⟨some _, _, _, _, _, _⟩) rfl (fun K hK => ?_) (AllReadyH.nil)
      ·go_simp
       refine via14 (K := K) (fun W9 => Below w9.heap.size w9 W9 ∧ W9.ownsRow w9.heap.size 31 8 (.slice (some ⟨x94.heap.size, 0, none⟩) 0 0) 0 [] ∧ ZAt14 zero8 W9 w9.heap.size r84 (some ⟨x94.heap.size, 0, none⟩) ∧ ZAt14 #[.int .i64 q_1, .bool q_2, .bool q_3, .string ⟨q_4.toArray⟩, .int .i64 q_5, .string ⟨q_6.toArray⟩, .slice q_7 q_8 q_9, .slice q_a q_b q_c] W9 w9.heap.size r94 (some ⟨x94.heap.size, 0, none⟩)) ⟨ht.alloc ht.size _, World.ownsRow_lit x94 #[] 0 ht.size (by unfold maxLen; omega) rfl, ZAt14.row HZ94.out _, ZAt14.row HONE94.out _⟩ ?_
       rintro x95 ⟨ht1, h95_0, h95_1, h95_2⟩
       have Hown95 := Lib.hid h95_0
       have HZ95 := Lib.hid h95_1
       have HONE95 := Lib.hid h95_2
       clear h95_0 h95_1 h95_2
       refine hK.out _ _ ht1 (fun ht => ?_)
       clear hK K ht1
       try simp only [Act.put, List.setIfInBounds_toArray, List.set_cons_zero, List.set_cons_succ]
       obtain ⟨r95, hr95⟩ : ∃ g, g = x94.heap.size := ⟨_, rfl⟩
       rw [← hr95] at Hown95 HZ95 HONE95 ⊢
       clear hr95
       refine wpAnyH_ready (rs := [3]) (by kernel_rfl) (by simp) ?_
       refine AllReadyH.cons (o := ⟨some _, _, _, _, _, _⟩) rfl (fun K hK => ?_) (AllReadyH.nil)
       ·refine step_append_src14 _ rfl _ _ _ rfl w9.heap.size 31 i0 _ 8 112 Tryz.underlying28 hi0 hz0 hz1 hz2 rfl (by omega) (.slice (some ⟨r95, 0, none⟩) 0 0) 0 [] rfl Hown95.out (some ⟨gx, ox, none⟩) lv.length k_9 fA rfl HLFA.out (HSA.out.keep ht) HONEA.out (by unfold maxLen; omega) (by omega) ht.size lv.length (by omega) ?_
        intro A96 c96 x96 hown hgr hat
        have ht1 := below_grown14 ht Hown95.out hgr
        have Hown96 := Lib.hid hown
        have HZ96 := Lib.hid (ZAt14.grown HZ95.out hgr hat)
        have HONE96 := Lib.hid (ZAt14.grown HONE95.out hgr hat)
        clear hown hgr hat
        refine hK.out _ _ ht1 (fun ht => ?_)
        clear hK K ht1
        try simp only [Act.put, List.setIfInBounds_toArray, List.set_cons_zero, List.set_cons_succ]
        refine wpAnyH_ready (rs := [9]) (by kernel_rfl) (by simp) ?_
        refine AllReadyH.cons (o := ⟨some _, _, _, _, _, _⟩) rfl (fun K hK => ?_) (AllReadyH.nil)
        ·refine step_append_src14 _ rfl _ _ _ rfl w9.heap.size 31 i0 _ 8 112 Tryz.underlying28 hi0 hz0 hz1 hz2 rfl (by omega) (.slice A96 lv.length c96) lv.length ([] ++ fA) rfl Hown96.out (some ⟨r94, 0, none⟩) 1 1 [.int .i64 q_1, .bool q_2, .bool q_3, .string ⟨q_4.toArray⟩, .int .i64 q_5, .string ⟨q_6.toArray⟩, .slice q_7 q_8 q_9, .slice q_a q_b q_c] rfl rfl (src_one14 (l := [.int .i64 q_1, .bool q_2, .bool q_3, .string ⟨q_4.toArray⟩, .int .i64 q_5, .string ⟨q_6.toArray⟩, .slice q_7 q_8 q_9, .slice q_a q_b q_c]) HONE96.out.blk) HONEX.out (by unfold maxLen; omega) (by omega) ht.size (lv.length + 1) (by omega) ?_
         intro A97 c97 x97 hown hgr hat
         have ht1 := below_grown14 ht Hown96.out hgr
         have Hown97 := Lib.hid hown
         have HZ97 := Lib.hid (ZAt14.grown HZ96.out hgr hat)
         have HONE97 := Lib.hid (ZAt14.grown HONE96.out hgr hat)
         clear hown hgr hat
         refine hK.out _ _ ht1 (fun ht => ?_)
         clear hK K ht1
         try simp only [Act.put, List.setIfInBounds_toArray, List.set_cons_zero, List.set_cons_succ]
         refine wpAnyH_take (i := 10) (oi := ⟨some _, _, _, _, _, _⟩) (v := (.agg #[.int .i64 4, .bool false, .bool false, .string ⟨#[]⟩, .int .i64 0, .string ⟨#[]⟩, .slice A97 (lv.length + 1) c97, .slice none 0 0])) rfl (by kernel_rfl) (by kernel_rfl) (by kernel_rfl) (fun _ _ _ h => h) (Or.inl ⟨by rfl, ?_⟩) ht ?_
         ·intro W9 hSw
          go_simp
         try simp only [Act.put, List.setIfInBounds_toArray, List.set_cons_zero, List.set_cons_succ]
         refine wpAnyH_ready (rs := [12]) (by kernel_rfl) (by simp) ?_
         refine AllReadyH.cons (o := ⟨none, _, _, _, _, _⟩) rfl (fun K hK => ?_) (AllReadyH.nil)
         ·obtain ⟨z0, z1, z2, z3, z4, z5, z6, z7⟩ := HZ97.out.blk.eight
          have zf := HZ97.out.blk.frozen
          have zl := HZ97.out.blk.lt
          go_simp
          refine via14 (K := K) (fun W9 => Below w9.heap.size w9 W9 ∧ Fin14 w9 lv [xh] r84 A97 c97 W9) ⟨below_set8 ht HZ97.out.ge _ _ _ _ _ _ _ _, fin14 HFLAT.out Hown97.out HZ97.out ht⟩ ?_
          rintro x98 ⟨ht1, hfin⟩
          have HFIN := Lib.hid hfin
          clear hfin z0 z1 z2 z3 z4 z5 z6 z7 zf zl
          refine hK.out _ _ ht1 (fun ht => ?_)
          clear hK K ht1
          try simp only [Act.put, List.setIfInBounds_toArray, List.set_cons_zero, List.set_cons_succ]
          refine wpAnyH_done (by kernel_rfl) ?_ _
          clear ht
          go_wp2_with fail
          go_meet
          case rel => exact ⟨r84, A97, c97, rfl, HFIN.out⟩
   case rest =>
   obtain ⟨gT, AT, cT, rfl, hft⟩ := hcut
   obtain ⟨wt, hwt⟩ : ∃ W, W = wc := ⟨_, rfl⟩
   subst hwt
   obtain ⟨hf1, hf2, hf3, hf4, hf5⟩ := hft
   have HBT := Lib.hid hf1
   have HBT0 := Lib.hid (HB9.out.trans (hf5.mono HB9.out.size))
   have HXT := Lib.hid (arr_in14 (n := lv.length + 1) hf2 (by simp) (by simpa using hf3) hf4)
   have HG2 := Lib.hid (fun (W : World) (h : Below wt.heap.size wt W) => HG.out W (HBT0.out.trans (h.mono HBT0.out.size)))
   clear hf1 hf2 hf3 hf4 hf5 HG
   have HG := HG2
   clear HG2
   go_upto_region 19 with (fail)
   refine wp_region_held_drew (S := fun W9 => Below wt.heap.size wt W9) (by kernel_rfl) (show Below wt.heap.size wt wt.drew from below_drewN (Below.refl _ _) 1) (fun ht => ?_)
   generalize wt.drew = wd at *
   refine wpAnyH_take (i := 0) (oi := ⟨some _, _, _, _, _, _⟩) (v := (.func (.func 11) #[] #[])) rfl (by kernel_rfl) (by kernel_rfl) (by kernel_rfl) (fun _ _ _ h => h) (Or.inl ⟨by rfl, ?_⟩) ht ?_
   ·intro W9 hSw
    go_simp
   try simp only [Act.put, List.setIfInBounds_toArray, List.set_cons_zero, List.set_cons_succ]
   refine wpAnyH_take (i := 1) (oi := ⟨some _, _, _, _, _, _⟩) (v := (.agg #[.int .i64 1, .bool true, .bool false, .string ⟨#[]⟩, .int .i64 0, .string ⟨#[]⟩, .slice none 0 0, .slice none 0 0])) rfl (by kernel_rfl) (by kernel_rfl) (by kernel_rfl) (fun _ _ _ h => h) (Or.inl ⟨by rfl, ?_⟩) ht ?_
   ·intro W9 hSw
    go_simp
   try simp only [Act.put, List.setIfInBounds_toArray, List.set_cons_zero, List.set_cons_succ]
   refine wpAnyH_take (i := 3) (oi := ⟨some _, _, _, _, _, _⟩) (v := (.agg #[.int .i64 4, .bool false, .bool false, .string ⟨#[]⟩, .int .i64 0, .string ⟨#[]⟩, .slice AT (lv.length + 1) cT, .slice none 0 0])) rfl (by kernel_rfl) (by kernel_rfl) (by kernel_rfl) (fun _ _ _ h => h) (Or.inl ⟨by rfl, ?_⟩) ht ?_
   ·intro W9 hSw
    obtain ⟨b0, b1, b2, b3, b4, b5, b6, b7⟩ := (HBT.out.on hSw).eight
    have bl := (HBT.out.on hSw).lt
    go_simp
   try simp only [Act.put, List.setIfInBounds_toArray, List.set_cons_zero, List.set_cons_succ]
   refine wpAnyH_ready (rs := [2]) (by kernel_rfl) (by simp) ?_
   refine AllReadyH.cons (o := ⟨some _, _, _, _, _, _⟩) rfl (fun K hK => ?_) (AllReadyH.nil)
   go_simp
   refine (keySide_any Ow.kUniq (.mk 1 true Nm.Num.zero [] [] []) (.agg #[.int .i64 1, .bool true, .bool false, .string ⟨#[]⟩, .int .i64 0, .string ⟨#[]⟩, .slice none 0 0, .slice none 0 0]) _ (bool_in14 _ true)).mono ?_
   rintro e99 x99 ⟨g99, rfl, hk99, hb99⟩
   have hs := ht.trans (hb99.mono ht.size)
   have HK99 := Lib.hid hk99
   clear ht hb99 hk99
   go_wp2_with fail
   refine hK.out _ _ hs (fun ht => ?_)
   clear hK K hs
   try simp only [Act.put, List.setIfInBounds_toArray, List.set_cons_zero, List.set_cons_succ]
   refine wpAnyH_ready (rs := [4]) (by kernel_rfl) (by simp) ?_
   refine AllReadyH.cons (o := ⟨some _, _, _, _, _, _⟩) rfl (fun K hK => ?_) (AllReadyH.nil)
   go_simp
   refine (ownKey14 HO.out (HG.out _ ht) HK99.out (wide_bool14 true) HWT.out (In.keep (le_below ht) _ _ HXT.out) (n := 1) (by rw [HTW.out true]; rfl)).mono ?_
   rintro e100 x100 ⟨A100, c100, rfl, hb100⟩
   have hs := ht.trans (hb100.mono ht.size)
   clear ht hb100 HK99
   go_wp2_with fail
   refine hK.out _ _ hs (fun ht => ?_)
   clear hK K hs
   try simp only [Act.put, List.setIfInBounds_toArray, List.set_cons_zero, List.set_cons_succ]
   refine wpAnyH_take (i := 5) (oi := ⟨some _, _, _, _, _, _⟩) (v := (.int .i64 1)) rfl (by kernel_rfl) (by kernel_rfl) (by kernel_rfl) (fun _ _ _ h => h) (Or.inl ⟨by rfl, ?_⟩) ht ?_
   ·intro W9 hSw
    go_simp
   try simp only [Act.put, List.setIfInBounds_toArray, List.set_cons_zero, List.set_cons_succ]
   refine wpAnyH_take (i := 6) (oi := ⟨some _, _, _, _, _, _⟩) (v := (.bool false)) rfl (by kernel_rfl) (by kernel_rfl) (by kernel_rfl) (fun _ _ _ h => h) (Or.inl ⟨by rfl, ?_⟩) ht ?_
   ·intro W9 hSw
    go_simp
   try simp only [Act.put, List.setIfInBounds_toArray, List.set_cons_zero, List.set_cons_succ]
   refine wpAnyH_take (i := 7) (oi := ⟨some _, _, _, _, _, _⟩) (v := (.bool false)) rfl (by kernel_rfl) (by kernel_rfl) (by kernel_rfl) (fun _ _ _ h => h) (Or.inl ⟨by rfl, ?_⟩) ht ?_
   ·intro W9 hSw
    go_simp
   try simp only [Act.put, List.setIfInBounds_toArray, List.set_cons_zero, List.set_cons_succ]
   refine wpAnyH_take (i := 8) (oi := ⟨some _, _, _, _, _, _⟩) (v := (.func (.func 11) #[] #[])) rfl (by kernel_rfl) (by kernel_rfl) (by kernel_rfl) (fun _ _ _ h => h) (Or.inl ⟨by rfl, ?_⟩) ht ?_
   ·intro W9 hSw
    go_simp
   try simp only [Act.put, List.setIfInBounds_toArray, List.set_cons_zero, List.set_cons_succ]
   refine wpAnyH_take (i := 9) (oi := ⟨some _, _, _, _, _, _⟩) (v := (.agg #[.int .i64 1, .bool false, .bool false, .string ⟨#[]⟩, .int .i64 0, .string ⟨#[]⟩, .slice none 0 0, .slice none 0 0])) rfl (by kernel_rfl) (by kernel_rfl) (by kernel_rfl) (fun _ _ _ h => h) (Or.inl ⟨by rfl, ?_⟩) ht ?_
   ·intro W9 hSw
    go_simp
   try simp only [Act.put, List.setIfInBounds_toArray, List.set_cons_zero, List.set_cons_succ]
   refine wpAnyH_take (i := 11) (oi := ⟨some _, _, _, _, _, _⟩) (v := (.agg #[.int .i64 4, .bool false, .bool false, .string ⟨#[]⟩, .int .i64 0, .string ⟨#[]⟩, .slice AT (lv.length + 1) cT, .slice none 0 0])) rfl (by kernel_rfl) (by kernel_rfl) (by kernel_rfl) (fun _ _ _ h => h) (Or.inl ⟨by rfl, ?_⟩) ht ?_
   ·intro W9 hSw
    obtain ⟨b0, b1, b2, b3, b4, b5, b6, b7⟩ := (HBT.out.on hSw).eight
    have bl := (HBT.out.on hSw).lt
    go_simp
   try simp only [Act.put, List.setIfInBounds_toArray, List.set_cons_zero, List.set_cons_succ]
   refine wpAnyH_ready (rs := [10]) (by kernel_rfl) (by simp) ?_
   refine AllReadyH.cons (o := ⟨some _, _, _, _, _, _⟩) rfl (fun K hK => ?_) (AllReadyH.nil)
   go_simp
   refine (keySide_any Ow.kUniq (.mk 1 false Nm.Num.zero [] [] []) (.agg #[.int .i64 1, .bool false, .bool false, .string ⟨#[]⟩, .int .i64 0, .string ⟨#[]⟩, .slice none 0 0, .slice none 0 0]) _ (bool_in14 _ false)).mono ?_
   rintro e101 x101 ⟨g101, rfl, hk101, hb101⟩
   have hs := ht.trans (hb101.mono ht.size)
   have HK101 := Lib.hid hk101
   clear ht hb101 hk101
   go_wp2_with fail
   refine hK.out _ _ hs (fun ht => ?_)
   clear hK K hs
   try simp only [Act.put, List.setIfInBounds_toArray, List.set_cons_zero, List.set_cons_succ]
   refine wpAnyH_ready (rs := [12]) (by kernel_rfl) (by simp) ?_
   refine AllReadyH.cons (o := ⟨some _, _, _, _, _, _⟩) rfl (fun K hK => ?_) (AllReadyH.nil)
   go_simp
   refine (ownKey14 HO.out (HG.out _ ht) HK101.out (wide_bool14 false) HWT.out (In.keep (le_below ht) _ _ HXT.out) (n := 0) (by rw [HTW.out false]; rfl)).mono ?_
   rintro e102 x102 ⟨A102, c102, rfl, hb102⟩
   have hs := ht.trans (hb102.mono ht.size)
   clear ht hb102 HK101
   go_wp2_with fail
   refine hK.out _ _ hs (fun ht => ?_)
   clear hK K hs
   try simp only [Act.put, List.setIfInBounds_toArray, List.set_cons_zero, List.set_cons_succ]
   refine wpAnyH_take (i := 13) (oi := ⟨some _, _, _, _, _, _⟩) (v := (.int .i64 0)) rfl (by kernel_rfl) (by kernel_rfl) (by kernel_rfl) (fun _ _ _ h => h) (Or.inl ⟨by rfl, ?_⟩) ht ?_
   ·intro W9 hSw
    go_simp
   try simp only [Act.put, List.setIfInBounds_toArray, List.set_cons_zero, List.set_cons_succ]
   refine wpAnyH_take (i := 14) (oi := ⟨some _, _, _, _, _, _⟩) (v := (.bool false)) rfl (by kernel_rfl) (by kernel_rfl) (by kernel_rfl) (fun _ _ _ h => h) (Or.inl ⟨by rfl, ?_⟩) ht ?_
   ·intro W9 hSw
    go_simp
   try simp only [Act.put, List.setIfInBounds_toArray, List.set_cons_zero, List.set_cons_succ]
   refine wpAnyH_take (i := 15) (oi := ⟨some _, _, _, _, _, _⟩) (v := (.bool false)) rfl (by kernel_rfl) (by kernel_rfl) (by kernel_rfl) (fun _ _ _ h => h) (Or.inl ⟨by rfl, ?_⟩) ht ?_
   ·intro W9 hSw
    go_simp
   try simp only [Act.put, List.setIfInBounds_toArray, List.set_cons_zero, List.set_cons_succ]
   refine wpAnyH_done (by kernel_rfl) ?_ _
   have HBE := Lib.hid (HBZ.out.trans ((HBT0.out.trans (ht.mono HBT0.out.size)).mono HBZ.out.size))
   clear ht
   go_wp2_with fail
   go_ret
   exact ⟨rfl, HBE.out⟩
  ·have hn4 : ¬ (k_1 = 4 ∧ (0 : Int) < (lv.length : Int)) := fun ⟨e, h⟩ => h4 ⟨e, by omega⟩
   clear hv1 hw1 hlv h4
   by_cases e4 : k_1 = 4
   ·subst e4
    have hn0 : ¬ (0 : Int) < (lv.length : Int) := fun h => hn4 ⟨rfl, h⟩
    clear hn4
    go_wp2_with fail
    go_ret
    exact ⟨rfl, HBZ.out.trans (HB9.out.mono HBZ.out.size)⟩
   ·clear hn4
    go_wp2_with fail
    go_ret
    exact ⟨rfl, HBZ.out.trans (HB9.out.mono HBZ.out.size)⟩

end Go.Proofs.YtolkfgikomminaaGreatDoor

