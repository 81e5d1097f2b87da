/- Hg: Hg Hh, in one text. -/
import Derived.Test.YtolkfgikomminaaGreatDoorHf
import Derived.Test.YtolkfgikomminaaGreatDoorMg
import Derived.Deep.CutRange
import Derived.Test.YtolkfgikomminaaGreatDoorDi
import Derived.Test.YtolkfgikomminaaGreatDoorLa
namespace Go.Proofs.YtolkfgikomminaaGreatDoor
open Go.RowKit Js

theorem via14 {K : Act → World → Prop} {a : Act} {w' : World} (F : World → Prop) (hF : F w') (h : ∀ W, F W → K a W) : K a w' := h w' hF
theorem in_str14 {c : Cl} {v : Vl} {k : Int} {b neg : Bool} {dg : List UInt8} {ex : Int} {s : List UInt8} {lv mv : Value} (h : v.In c (.agg #[.int .i64 k, .bool b, .bool neg, .string ⟨dg.toArray⟩, .int .i64 ex, .string ⟨s.toArray⟩, lv, mv])) : Sh.strOf v = s := by
 obtain ⟨k', b', n', s', l', m'⟩ := v
 obtain ⟨A, e, B, d, he, _⟩ := In.form h
 unfold vlV at he
 simp at he
 exact he.2.2.2.2.2.1.symm
set_option linter.unusedVariables false in
set_option linter.unusedSimpArgs false in
set_option maxRecDepth 100000 in
set_option maxHeartbeats 8000000 in
theorem refFails_req (nm : List UInt8) (kv v : Vl) (xk xv : Value) (w : World) (hmk : kv.may = true) (hmv : v.may = true) (hsz : v.size ≤ 1000000) (hsl : v.slim 1000000) (hxk : kv.In w.cell? xk) (hxv : v.In w.cell? xv) :
  nm = [114, 101, 113, 117, 105, 114, 101, 100] →
  Calls Tryz.prog 16 #[.string ⟨nm.toArray⟩, xk, xv] w fun e w' => e = .returned (.bool (Ow.fails nm kv v)) ∧ Below w.heap.size w w' := by
 intro HNM
 obtain ⟨k, b, n, s, l, m⟩ := kv
 obtain ⟨vk, vb, vn, vs, vl, vm⟩ := v
 obtain ⟨A, e, B, d, rfl, q1, q2, q3, q4, q5, q6⟩ := In.form hxk
 obtain ⟨Av, ev, Bv, dv, rfl, r1, r2, r3, r4, r5, r6⟩ := In.form hxv
 have HXK := Lib.hid hxk
 have HXV := Lib.hid hxv
 have HLK := Lib.hid (show SlL w.cell? A l from q5)
 have HLV := Lib.hid (show SlL w.cell? Av vl from r5)
 have HQ2 := Lib.hid q2
 have HR2 := Lib.hid r2
 have hsk := (mayNum_May (may_own hmk).2.2.2.2.2.2.2.1).small
 have hsv := (mayNum_May (may_own hmv).2.2.2.2.2.2.2.1).small
 have hvl : vl.length ≤ 1000000 := by
  have h : vl.length ≤ sizeL vl := sizeL_len vl
  simp only [Vl.size] at hsz; omega
 have hvs : vs.length ≤ 1000000 := by simp only [Vl.slim] at hsl; exact hsl.2.1
 unfold maxLen at q2 r2
 have HB0 := Lib.hid (show Below w.heap.size w ((w.alloc (.cells #[.int .i64 k, .bool b, .bool n.neg, .string ⟨n.digits.toArray⟩, .int .i64 n.exp, .string ⟨s.toArray⟩, .slice A l.length e, .slice B m.length d] 31)).alloc (.cells #[.int .i64 vk, .bool vb, .bool vn.neg, .string ⟨vn.digits.toArray⟩, .int .i64 vn.exp, .string ⟨vs.toArray⟩, .slice Av vl.length ev, .slice Bv vm.length dv] 31)) from ((Below.refl _ _).alloc (Nat.le_refl _) _).alloc (by simp) _)
 have HK0 := Lib.hid (show Blk ((w.alloc (.cells #[.int .i64 k, .bool b, .bool n.neg, .string ⟨n.digits.toArray⟩, .int .i64 n.exp, .string ⟨s.toArray⟩, .slice A l.length e, .slice B m.length d] 31)).alloc (.cells #[.int .i64 vk, .bool vb, .bool vn.neg, .string ⟨vn.digits.toArray⟩, .int .i64 vn.exp, .string ⟨vs.toArray⟩, .slice Av vl.length ev, .slice Bv vm.length dv] 31)) w.heap.size 31 #[.int .i64 k, .bool b, .bool n.neg, .string ⟨n.digits.toArray⟩, .int .i64 n.exp, .string ⟨s.toArray⟩, .slice A l.length e, .slice B m.length d] from (Blk.new w 31 _).alloc _)
 have HV0 := Lib.hid (show Blk ((w.alloc (.cells #[.int .i64 k, .bool b, .bool n.neg, .string ⟨n.digits.toArray⟩, .int .i64 n.exp, .string ⟨s.toArray⟩, .slice A l.length e, .slice B m.length d] 31)).alloc (.cells #[.int .i64 vk, .bool vb, .bool vn.neg, .string ⟨vn.digits.toArray⟩, .int .i64 vn.exp, .string ⟨vs.toArray⟩, .slice Av vl.length ev, .slice Bv vm.length dv] 31)) (w.heap.size + 1) 31 #[.int .i64 vk, .bool vb, .bool vn.neg, .string ⟨vn.digits.toArray⟩, .int .i64 vn.exp, .string ⟨vs.toArray⟩, .slice Av vl.length ev, .slice Bv vm.length dv] from Blk.new2 w (.cells #[.int .i64 k, .bool b, .bool n.neg, .string ⟨n.digits.toArray⟩, .int .i64 n.exp, .string ⟨s.toArray⟩, .slice A l.length e, .slice B m.length d] 31) 31 _)
 have hmk2 := hmk
 have hmv2 := hmv
 clear hxk hxv q3 q4 q5 q6 r3 r4 r5 r6 hsz hsl hmk hmv
 go_enter Tryz.func16, Tryz.ntmps16
 go_upto_region 1 with (fail)
 generalize (w.alloc (.cells #[.int .i64 k, .bool b, .bool n.neg, .string ⟨n.digits.toArray⟩, .int .i64 n.exp, .string ⟨s.toArray⟩, .slice A l.length e, .slice B m.length d] 31)).alloc (.cells #[.int .i64 vk, .bool vb, .bool vn.neg, .string ⟨vn.digits.toArray⟩, .int .i64 vn.exp, .string ⟨vs.toArray⟩, .slice Av vl.length ev, .slice Bv vm.length dv] 31) = w0 at *
 have HBK := Lib.hid (fun (W : World) (h : Below w0.heap.size w0 W) => HK0.out.on h)
 have HBV := Lib.hid (fun (W : World) (h : Below w0.heap.size w0 W) => HV0.out.on h)
 have HCH := Lib.hid (fun W => refChars_any ⟨vs.toArray⟩ W (by rw [Lib.size_mk]; omega))
 obtain ⟨ct, hct⟩ : ∃ ct, Ow.chars vs = ct := ⟨_, rfl⟩
 have hctl : ct ≤ 1000000 := by rw [← hct]; exact Nat.le_trans (Ow.chars_le vs) hvs
 obtain ⟨c1, hc1⟩ : ∃ c, Nm.count (ct : Int) = c := ⟨_, rfl⟩
 have hcm1 : Nm.Small c1 := by rw [← hc1]; exact (Nm.countMay14 ct (by omega)).small
 obtain ⟨c2, hc2⟩ : ∃ c, Nm.count (vl.length : Int) = c := ⟨_, rfl⟩
 have hcm2 : Nm.Small c2 := by rw [← hc2]; exact (Nm.countMay14 vl.length (by omega)).small
 have HO1 := Lib.hid (fun W => refOf_any (ct : Int) W (by omega) (by omega))
 have HO2 := Lib.hid (fun W => refOf_any (vl.length : Int) W (by omega) (by omega))
 rw [show (Nm.parse (Lib.itoa (ct : Int))).1 = c1 from hc1] at HO1
 rw [show (Nm.parse (Lib.itoa (vl.length : Int))).1 = c2 from hc2] at HO2
 unfold numV at HO1 HO2
 rw [show (⟨vs.toArray⟩ : ByteArray).data.toList = vs from rfl, hct] at HCH
 have HM1 := Lib.hid (fun W => refCmp_any c1.neg c1.digits c1.exp n.neg n.digits n.exp W hcm1 hsk)
 have HM2 := Lib.hid (fun W => refCmp_any c2.neg c2.digits c2.exp n.neg n.digits n.exp W hcm2 hsk)
 have HM3 := Lib.hid (fun W => refCmp_any vn.neg vn.digits vn.exp n.neg n.digits n.exp W hsv hsk)
 obtain ⟨tx, htx⟩ : ∃ q, Nm.refCmp c1 n = q := ⟨_, rfl⟩
 obtain ⟨mn, hmn⟩ : ∃ q, Nm.refCmp c2 n = q := ⟨_, rfl⟩
 obtain ⟨sz, hsz⟩ : ∃ q, Nm.refCmp vn n = q := ⟨_, rfl⟩
 rw [show Nm.refCmp ⟨c1.neg, c1.digits, c1.exp⟩ ⟨n.neg, n.digits, n.exp⟩ = tx from htx] at HM1
 rw [show Nm.refCmp ⟨c2.neg, c2.digits, c2.exp⟩ ⟨n.neg, n.digits, n.exp⟩ = mn from hmn] at HM2
 rw [show Nm.refCmp ⟨vn.neg, vn.digits, vn.exp⟩ ⟨n.neg, n.digits, n.exp⟩ = sz from hsz] at HM3
 have HTX := Lib.hid (show Nm.refCmp (Nm.count (Ow.chars vs)) n = tx by rw [hct, hc1, htx])
 have HMN := Lib.hid (show Nm.refCmp (Nm.count vl.length) n = mn by rw [hc2, hmn])
 have HSZ := Lib.hid hsz
 clear hct hc1 hc2 hcm1 hcm2 htx hmn hsz hsk hsv
 refine wp_region_held_drew (S := fun W9 => Below w0.heap.size w0 W9) (by kernel_rfl) (show Below w0.heap.size w0 w0.drew from below_drewN (Below.refl _ _) 1) (fun ht => ?_)
 generalize w0.drew = w0d at *
 refine wpAnyH_take (i := 0) (oi := ⟨some _, _, _, _, _, _⟩) (v := (.pointer (some ⟨w.heap.size + 1, 5, none⟩))) rfl (by kernel_rfl) (by kernel_rfl) (by kernel_rfl) (fun _ _ _ h => h) (Or.inl ⟨by rfl, ?_⟩) ht ?_
 ·intro W9 hSw
  go_simp
 try simp only [Act.put, List.setIfInBounds_toArray, List.set_cons_zero, List.set_cons_succ]
 refine wpAnyH_take (i := 1) (oi := ⟨some _, _, _, _, _, _⟩) (v := (.string ⟨vs.toArray⟩)) rfl (by kernel_rfl) (by kernel_rfl) (by kernel_rfl) (fun _ _ _ h => h) (Or.inl ⟨by rfl, ?_⟩) ht ?_
 ·intro W9 hSw
  obtain ⟨b0, b1, b2, b3, b4, b5, b6, b7⟩ := (HBV.out W9 hSw).eight
  have bl := (HBV.out W9 hSw).lt
  go_simp
 try simp only [Act.put, List.setIfInBounds_toArray, List.set_cons_zero, List.set_cons_succ]
 refine wpAnyH_take (i := 4) (oi := ⟨some _, _, _, _, _, _⟩) (v := (.pointer (some ⟨w.heap.size, 2, none⟩))) rfl (by kernel_rfl) (by kernel_rfl) (by kernel_rfl) (fun _ _ _ h => h) (Or.inl ⟨by rfl, ?_⟩) ht ?_
 ·intro W9 hSw
  go_simp
 try simp only [Act.put, List.setIfInBounds_toArray, List.set_cons_zero, List.set_cons_succ]
 refine wpAnyH_take (i := 5) (oi := ⟨some _, _, _, _, _, _⟩) (v := (.agg #[.bool n.neg, .string ⟨n.digits.toArray⟩, .int .i64 n.exp])) rfl (by kernel_rfl) (by kernel_rfl) (by kernel_rfl) (fun _ _ _ h => h) (Or.inl ⟨by rfl, ?_⟩) ht ?_
 ·intro W9 hSw
  obtain ⟨a0, a1, a2, a3, a4, a5, a6, a7⟩ := (HBK.out W9 hSw).eight
  have al := (HBK.out W9 hSw).lt
  go_simp
 try simp only [Act.put, List.setIfInBounds_toArray, List.set_cons_zero, List.set_cons_succ]
 refine wpAnyH_ready (rs := [2]) (by kernel_rfl) (by simp) ?_
 refine AllReadyH.cons (o := ⟨some _, _, _, _, _, _⟩) rfl (fun K hK => ?_) (AllReadyH.nil)
 go_simp
 refine (HCH.out _).mono ?_
 rintro e1 w1 ⟨rfl, rfl⟩
 go_wp2_with fail
 refine hK.out _ _ ht (fun ht => ?_)
 clear hK K
 try simp only [Act.put, List.setIfInBounds_toArray, List.set_cons_zero, List.set_cons_succ]
 refine wpAnyH_ready (rs := [3]) (by kernel_rfl) (by simp) ?_
 refine AllReadyH.cons (o := ⟨some _, _, _, _, _, _⟩) rfl (fun K hK => ?_) (AllReadyH.nil)
 go_simp
 refine (HO1.out _).mono ?_
 rintro e2 w2 ⟨rfl, hb2⟩
 have hb2 := ht.trans (hb2.mono ht.size)
 go_wp2_with fail
 refine hK.out _ _ hb2 (fun ht => ?_)
 clear hK K hb2
 try simp only [Act.put, List.setIfInBounds_toArray, List.set_cons_zero, List.set_cons_succ]
 refine wpAnyH_ready (rs := [6]) (by kernel_rfl) (by simp) ?_
 refine AllReadyH.cons (o := ⟨some _, _, _, _, _, _⟩) rfl (fun K hK => ?_) (AllReadyH.nil)
 go_simp
 refine (HM1.out _).mono ?_
 rintro e3 w3 ⟨rfl, hb3⟩
 have hb3 := ht.trans (hb3.mono ht.size)
 go_wp2_with fail
 refine hK.out _ _ hb3 (fun ht => ?_)
 clear hK K hb3
 try simp only [Act.put, List.setIfInBounds_toArray, List.set_cons_zero, List.set_cons_succ]
 refine wpAnyH_take (i := 7) (oi := ⟨some _, _, _, _, _, _⟩) (v := (.int .i64 tx)) rfl (by kernel_rfl) (by kernel_rfl) (by kernel_rfl) (fun _ _ _ h => h) (Or.inl ⟨by rfl, ?_⟩) ht ?_
 ·intro W9 hSw
  go_simp
 try simp only [Act.put, List.setIfInBounds_toArray, List.set_cons_zero, List.set_cons_succ]
 refine wpAnyH_done (by kernel_rfl) ?_ _
 have HW3 := Lib.hid ht
 clear ht HCH HO1 HM1
 go_upto_region 2 with (fail)
 refine wp_region_held_drew (S := fun W9 => Below w0.heap.size w0 W9) (by kernel_rfl) (show Below w0.heap.size w0 w3.drew from below_drewN HW3.out 1) (fun ht => ?_)
 generalize w3.drew = w4 at *
 refine wpAnyH_take (i := 0) (oi := ⟨some _, _, _, _, _, _⟩) (v := (.pointer (some ⟨w.heap.size + 1, 6, none⟩))) rfl (by kernel_rfl) (by kernel_rfl) (by kernel_rfl) (fun _ _ _ h => h) (Or.inl ⟨by rfl, ?_⟩) ht ?_
 ·intro W9 hSw
  go_simp
 try simp only [Act.put, List.setIfInBounds_toArray, List.set_cons_zero, List.set_cons_succ]
 refine wpAnyH_take (i := 1) (oi := ⟨some _, _, _, _, _, _⟩) (v := (.slice Av vl.length ev)) rfl (by kernel_rfl) (by kernel_rfl) (by kernel_rfl) (fun _ _ _ h => h) (Or.inl ⟨by rfl, ?_⟩) ht ?_
 ·intro W9 hSw
  obtain ⟨b0, b1, b2, b3, b4, b5, b6, b7⟩ := (HBV.out W9 hSw).eight
  have bl := (HBV.out W9 hSw).lt
  go_simp
 try simp only [Act.put, List.setIfInBounds_toArray, List.set_cons_zero, List.set_cons_succ]
 refine wpAnyH_take (i := 2) (oi := ⟨some _, _, _, _, _, _⟩) (v := (.int .i64 vl.length)) rfl (by kernel_rfl) (by kernel_rfl) (by kernel_rfl) (fun _ _ _ h => h) (Or.inl ⟨by rfl, ?_⟩) ht ?_
 ·intro W9 hSw
  go_simp
 try simp only [Act.put, List.setIfInBounds_toArray, List.set_cons_zero, List.set_cons_succ]
 refine wpAnyH_take (i := 4) (oi := ⟨some _, _, _, _, _, _⟩) (v := (.pointer (some ⟨w.heap.size, 2, none⟩))) rfl (by kernel_rfl) (by kernel_rfl) (by kernel_rfl) (fun _ _ _ h => h) (Or.inl ⟨by rfl, ?_⟩) ht ?_
 ·intro W9 hSw
  go_simp
 try simp only [Act.put, List.setIfInBounds_toArray, List.set_cons_zero, List.set_cons_succ]
 refine wpAnyH_take (i := 5) (oi := ⟨some _, _, _, _, _, _⟩) (v := (.agg #[.bool n.neg, .string ⟨n.digits.toArray⟩, .int .i64 n.exp])) rfl (by kernel_rfl) (by kernel_rfl) (by kernel_rfl) (fun _ _ _ h => h) (Or.inl ⟨by rfl, ?_⟩) ht ?_
 ·intro W9 hSw
  obtain ⟨a0, a1, a2, a3, a4, a5, a6, a7⟩ := (HBK.out W9 hSw).eight
  have al := (HBK.out W9 hSw).lt
  go_simp
 try simp only [Act.put, List.setIfInBounds_toArray, List.set_cons_zero, List.set_cons_succ]
 refine wpAnyH_ready (rs := [3]) (by kernel_rfl) (by simp) ?_
 refine AllReadyH.cons (o := ⟨some _, _, _, _, _, _⟩) rfl (fun K hK => ?_) (AllReadyH.nil)
 go_simp
 refine (HO2.out _).mono ?_
 rintro e5 w5 ⟨rfl, hb5⟩
 have hb5 := ht.trans (hb5.mono ht.size)
 go_wp2_with fail
 refine hK.out _ _ hb5 (fun ht => ?_)
 clear hK K hb5
 try simp only [Act.put, List.setIfInBounds_toArray, List.set_cons_zero, List.set_cons_succ]
 refine wpAnyH_ready (rs := [6]) (by kernel_rfl) (by simp) ?_
 refine AllReadyH.cons (o := ⟨some _, _, _, _, _, _⟩) rfl (fun K hK => ?_) (AllReadyH.nil)
 go_simp
 refine (HM2.out _).mono ?_
 rintro e6 w6 ⟨rfl, hb6⟩
 have hb6 := ht.trans (hb6.mono ht.size)
 go_wp2_with fail
 refine hK.out _ _ hb6 (fun ht => ?_)
 clear hK K hb6
 try simp only [Act.put, List.setIfInBounds_toArray, List.set_cons_zero, List.set_cons_succ]
 refine wpAnyH_take (i := 7) (oi := ⟨some _, _, _, _, _, _⟩) (v := (.int .i64 mn)) rfl (by kernel_rfl) (by kernel_rfl) (by kernel_rfl) (fun _ _ _ h => h) (Or.inl ⟨by rfl, ?_⟩) ht ?_
 ·intro W9 hSw
  go_simp
 try simp only [Act.put, List.setIfInBounds_toArray, List.set_cons_zero, List.set_cons_succ]
 refine wpAnyH_done (by kernel_rfl) ?_ _
 have HW6 := Lib.hid ht
 clear ht HO2 HM2 HW3
 obtain ⟨a0, a1, a2, a3, a4, a5, a6, a7⟩ := (HBK.out _ HW6.out).eight
 have al := (HBK.out _ HW6.out).lt
 obtain ⟨b0, b1, b2, b3, b4, b5, b6, b7⟩ := (HBV.out _ HW6.out).eight
 have bl := (HBV.out _ HW6.out).lt
 go_wp2_with fail
 refine (HM3.out _).mono ?_
 rintro e7 w7 ⟨rfl, hb7⟩
 have HW7 := Lib.hid (HW6.out.trans (hb7.mono HW6.out.size))
 clear hb7 HM3 HW6 a0 a1 a2 a3 a4 a5 a6 a7 al b0 b1 b2 b3 b4 b5 b6 b7 bl
 have HBB := Lib.hid (HB0.out.trans (HW7.out.mono HB0.out.size))
 obtain ⟨a0, a1, a2, a3, a4, a5, a6, a7⟩ := (HBK.out _ HW7.out).eight
 have al := (HBK.out _ HW7.out).lt
 obtain ⟨b0, b1, b2, b3, b4, b5, b6, b7⟩ := (HBV.out _ HW7.out).eight
 have bl := (HBV.out _ HW7.out).lt
 subst HNM
 have HF := Lib.hid (show Ow.fails [114, 101, 113, 117, 105, 114, 101, 100] (.mk k b n s l m) (.mk vk vb vn vs vl vm) = (decide (vk = 5) && l.any fun x => ((Vl.mk vk vb vn vs vl vm).find (Sh.strOf x)).isNone) from rfl)
 clear a0 a1 a2 a3 a4 a5 a6 a7 al b0 b1 b2 b3 b4 b5 b6 b7 bl
 go_wp2_with fail
 go_loopw [10, 18] (fun f10 i18 wr => ∃ j : Nat, f10 = .bool (decide (vk = 5) && (l.take j).any fun x => ((Vl.mk vk vb vn vs vl vm).find (Sh.strOf x)).isNone) ∧ i18 = .int .i64 j ∧ j ≤ l.length ∧ Below w0.heap.size w0 wr) (fun _ i _ => l.length - (intOf i).toNat)
 case atStart => exact ⟨0, by rw [List.take_zero, List.any_nil, Bool.and_false], rfl, Nat.zero_le _, HW7.out⟩
 case round =>
  obtain ⟨j, rfl, rfl, hj, hbr⟩ := hrel
  obtain ⟨wz, hwz⟩ : ∃ W, W = wr := ⟨_, rfl⟩
  subst hwz
  have HBR := Lib.hid hbr
  clear hbr
  obtain ⟨a0, a1, a2, a3, a4, a5, a6, a7⟩ := (HBK.out _ HBR.out).eight
  have al := (HBK.out _ HBR.out).lt
  by_cases hlt : j < l.length
  ·have hjj : (j : Int) < (l.length : Int) := by omega
   have HLW := Lib.hid (fun (W : World) (h : Below wz.heap.size wz W) => HLK.out.keep (le_below (HB0.out.trans ((HBR.out.trans (h.mono HBR.out.size)).mono HB0.out.size))))
   obtain ⟨g, o, y, hA, hy, hcl⟩ := (HLW.out wz (Below.refl _ _)) j _ (List.getElem?_eq_getElem hlt)
   obtain ⟨x, hx⟩ : ∃ x, l[j]'hlt = x := ⟨_, rfl⟩
   have HNX := Lib.hid (show ((l.take (j + 1)).any fun x => ((Vl.mk vk vb vn vs vl vm).find (Sh.strOf x)).isNone) = (((l.take j).any fun x => ((Vl.mk vk vb vn vs vl vm).find (Sh.strOf x)).isNone) || ((Vl.mk vk vb vn vs vl vm).find (Sh.strOf x)).isNone) by rw [List.take_succ_eq_append_getElem hlt, List.any_append, hx]; simp)
   rw [hx] at hy
   clear hx
   obtain ⟨y_1, y_2, y_3, y_4, y_5, y_6, y_7, y_8, y_9, y_a, y_b, y_c, rfl⟩ := In.cells hy
   rw [in_str14 hy] at HNX
   subst hA
   have HXC := Lib.hid (fun (W : World) (h : Below wz.heap.size wz W) => hcl.keep (le_below h))
   have HFD := Lib.hid (fun (W : World) (h : Below wz.heap.size wz W) => refFind_any (Vl.mk vk vb vn vs vl vm) y_6 (.agg #[.int .i64 vk, .bool vb, .bool vn.neg, .string ⟨vn.digits.toArray⟩, .int .i64 vn.exp, .string ⟨vs.toArray⟩, .slice Av vl.length ev, .slice Bv vm.length dv]) W (In.keep (le_below (HB0.out.trans ((HBR.out.trans (h.mono HBR.out.size)).mono HB0.out.size))) _ _ HXV.out))
   obtain ⟨mt, hmt⟩ : ∃ q, ((l.take j).any fun x => ((Vl.mk vk vb vn vs vl vm).find (Sh.strOf x)).isNone) = q := ⟨_, rfl⟩
   rw [hmt] at HNX ⊢
   obtain ⟨fd, hfd⟩ : ∃ q, (Vl.mk vk vb vn vs vl vm).find y_6 = q := ⟨_, rfl⟩
   rw [hfd] at HNX HFD
   clear hy hcl hmt hfd
   go_upto_region 44 with (fail)
   clear a0 a1 a2 a3 a4 a5 a6 a7 al
   go_cut [20] from 173 to 183 (fun v20 wc => v20 = .bool fd.isSome ∧ Below wz.heap.size wz wc)
   case first =>
    refine wp_region_held_drew (S := fun W9 => Below wz.heap.size wz W9) (by kernel_rfl) (show Below wz.heap.size wz wz.drew from below_drewN (Below.refl _ _) 1) (fun ht => ?_)
    have HWD := Lib.hid (show wz.drew.heap.size = wz.heap.size from rfl)
    generalize wz.drew = w8 at *
    refine wpAnyH_take (i := 0) (oi := ⟨some _, _, _, _, _, _⟩) (v := (.agg #[.int .i64 vk, .bool vb, .bool vn.neg, .string ⟨vn.digits.toArray⟩, .int .i64 vn.exp, .string ⟨vs.toArray⟩, .slice Av vl.length ev, .slice Bv vm.length dv])) rfl (by kernel_rfl) (by kernel_rfl) (by kernel_rfl) (fun _ _ _ h => h) (Or.inl ⟨by rfl, ?_⟩) ht ?_
    ·intro W9 hSw
     obtain ⟨b0, b1, b2, b3, b4, b5, b6, b7⟩ := (HBV.out W9 (HBR.out.trans (hSw.mono HBR.out.size))).eight
     have bl := (HBV.out W9 (HBR.out.trans (hSw.mono HBR.out.size))).lt
     go_simp
    try simp only [Act.put, List.setIfInBounds_toArray, List.set_cons_zero, List.set_cons_succ]
    refine wpAnyH_take (i := 1) (oi := ⟨some _, _, _, _, _, _⟩) (v := (.pointer (some ⟨w.heap.size, 6, none⟩))) rfl (by kernel_rfl) (by kernel_rfl) (by kernel_rfl) (fun _ _ _ h => h) (Or.inl ⟨by rfl, ?_⟩) ht ?_
    ·intro W9 hSw
     go_simp
    try simp only [Act.put, List.setIfInBounds_toArray, List.set_cons_zero, List.set_cons_succ]
    refine wpAnyH_take (i := 2) (oi := ⟨some _, _, _, _, _, _⟩) (v := (.slice (some ⟨g, o, none⟩) l.length e)) rfl (by kernel_rfl) (by kernel_rfl) (by kernel_rfl) (fun _ _ _ h => h) (Or.inl ⟨by rfl, ?_⟩) ht ?_
    ·intro W9 hSw
     obtain ⟨a0, a1, a2, a3, a4, a5, a6, a7⟩ := (HBK.out W9 (HBR.out.trans (hSw.mono HBR.out.size))).eight
     have al := (HBK.out W9 (HBR.out.trans (hSw.mono HBR.out.size))).lt
     go_simp
    try simp only [Act.put, List.setIfInBounds_toArray, List.set_cons_zero, List.set_cons_succ]
    refine wpAnyH_take (i := 3) (oi := ⟨some _, _, _, _, _, _⟩) (v := (.int .i64 j)) rfl (by kernel_rfl) (by kernel_rfl) (by kernel_rfl) (fun _ _ _ h => h) (Or.inl ⟨by rfl, ?_⟩) ht ?_
    ·intro W9 hSw
     go_simp
    try simp only [Act.put, List.setIfInBounds_toArray, List.set_cons_zero, List.set_cons_succ]
    refine wpAnyH_take (i := 4) (oi := ⟨some _, _, _, _, _, _⟩) (v := (.pointer (some ⟨g, o + j * 8, none⟩))) rfl (by kernel_rfl) (by kernel_rfl) (by kernel_rfl) (fun _ _ _ h => h) (Or.inl ⟨by rfl, ?_⟩) ht ?_
    ·intro W9 hSw
     go_simp
    try simp only [Act.put, List.setIfInBounds_toArray, List.set_cons_zero, List.set_cons_succ]
    refine wpAnyH_take (i := 5) (oi := ⟨some _, _, _, _, _, _⟩) (v := (.pointer (some ⟨g, o + j * 8 + 5, none⟩))) rfl (by kernel_rfl) (by kernel_rfl) (by kernel_rfl) (fun _ _ _ h => h) (Or.inl ⟨by rfl, ?_⟩) ht ?_
    ·intro W9 hSw
     go_simp
    try simp only [Act.put, List.setIfInBounds_toArray, List.set_cons_zero, List.set_cons_succ]
    refine wpAnyH_take (i := 6) (oi := ⟨some _, _, _, _, _, _⟩) (v := (.string ⟨y_6.toArray⟩)) rfl (by kernel_rfl) (by kernel_rfl) (by kernel_rfl) (fun _ _ _ h => h) (Or.inl ⟨by rfl, ?_⟩) ht ?_
    ·intro W9 hSw
     obtain ⟨c0, c1, c2, c3, c4, c5, c6, c7⟩ := (HXC.out W9 hSw).eight
     have hgl := World.block_lt_of_cell? _ _ c0
     go_simp
    try simp only [Act.put, List.setIfInBounds_toArray, List.set_cons_zero, List.set_cons_succ]
    refine wpAnyH_ready (rs := [7, 11]) (by kernel_rfl) (by simp) ?_
    refine AllReadyH.cons (o := ⟨some _, _, _, _, _, _⟩) rfl (fun K hK => ?_) (AllReadyH.cons (o := ⟨some _, _, _, _, _, _⟩) rfl (fun K hK => ?_) (AllReadyH.nil))
    ·go_simp
     refine (HFD.out _ ht).mono ?_
     rintro e2 w2 ⟨x2, rfl, hz2, hb2⟩
     obtain ⟨z_1, z_2, z_3, z_4, z_5, z_6, z_7, z_8, z_9, z_a, z_b, z_c, rfl⟩ := In.cells hz2
     have hs : Below wz.heap.size wz w2 := ht.trans (hb2.mono ht.size)
     clear hz2 hb2 ht
     go_wp2_with fail
     refine hK.out _ _ hs (fun ht => ?_)
     clear hK K hs
     try simp only [Act.put, List.setIfInBounds_toArray, List.set_cons_zero, List.set_cons_succ]
     refine wpAnyH_take (i := 8) (oi := ⟨some _, _, _, _, _, _⟩) (v := (.tuple #[.agg #[.int .i64 z_1, .bool z_2, .bool z_3, .string ⟨z_4.toArray⟩, .int .i64 z_5, .string ⟨z_6.toArray⟩, .slice z_7 z_8 z_9, .slice z_a z_b z_c], .bool fd.isSome])) rfl (by kernel_rfl) (by kernel_rfl) (by kernel_rfl) (fun _ _ _ h => h) (Or.inl ⟨by rfl, ?_⟩) ht ?_
     ·intro W9 hSw
      go_simp
     try simp only [Act.put, List.setIfInBounds_toArray, List.set_cons_zero, List.set_cons_succ]
     refine wpAnyH_take (i := 9) (oi := ⟨some _, _, _, _, _, _⟩) (v := (.agg #[.int .i64 z_1, .bool z_2, .bool z_3, .string ⟨z_4.toArray⟩, .int .i64 z_5, .string ⟨z_6.toArray⟩, .slice z_7 z_8 z_9, .slice z_a z_b z_c])) rfl (by kernel_rfl) (by kernel_rfl) (by kernel_rfl) (fun _ _ _ h => h) (Or.inl ⟨by rfl, ?_⟩) ht ?_
     ·intro W9 hSw
      go_simp
     try simp only [Act.put, List.setIfInBounds_toArray, List.set_cons_zero, List.set_cons_succ]
     refine wpAnyH_take (i := 10) (oi := ⟨some _, _, _, _, _, _⟩) (v := (.bool fd.isSome)) rfl (by kernel_rfl) (by kernel_rfl) (by kernel_rfl) (fun _ _ _ h => h) (Or.inl ⟨by rfl, ?_⟩) ht ?_
     ·intro W9 hSw
      go_simp
     try simp only [Act.put, List.setIfInBounds_toArray, List.set_cons_zero, List.set_cons_succ]
     refine wpAnyH_ready (rs := [11]) (by kernel_rfl) (by simp) ?_
     refine AllReadyH.cons (o := ⟨some _, _, _, _, _, _⟩) rfl (fun K hK => ?_) (AllReadyH.nil)
     go_simp
     refine via14 (K := K) (fun W9 => Below wz.heap.size wz W9 ∧ wz.heap.size ≤ w2.heap.size ∧ Blk W9 w2.heap.size 31 #[.int .i64 0, .bool false, .bool false, .string ⟨#[]⟩, .int .i64 0, .string ⟨#[]⟩, .slice none 0 0, .slice none 0 0]) ⟨ht.alloc ht.size _, ht.size, Blk.new w2 _ _⟩ ?_
     rintro x3 ⟨ht1, hge, hz⟩
     have HZ := Lib.hid hz
     have HGE := Lib.hid hge
     clear hz hge
     refine hK.out _ _ ht1 (fun ht => ?_)
     clear hK K ht1
     try simp only [Act.put, List.setIfInBounds_toArray, List.set_cons_zero, List.set_cons_succ]
     obtain ⟨gZ, hgZ⟩ : ∃ g, g = w2.heap.size := ⟨_, rfl⟩
     rw [← hgZ] at HZ HGE ⊢
     clear hgZ
     have HZB := HZ
     clear HZ
     refine wpAnyH_ready (rs := [12]) (by kernel_rfl) (by simp) ?_
     refine AllReadyH.cons (o := ⟨none, _, _, _, _, _⟩) rfl (fun K hK => ?_) (AllReadyH.nil)
     obtain ⟨q0, q1, q2, q3, q4, q5, q6, q7⟩ := HZB.out.eight
     have zf := HZB.out.frozen
     have zl := HZB.out.lt
     go_simp
     refine via14 (K := K) (fun W9 => Below wz.heap.size wz W9) (below_set8 ht HGE.out _ _ _ _ _ _ _ _) ?_
     rintro x5 ht1
     clear q0 q1 q2 q3 q4 q5 q6 q7 zf zl HZB
     refine hK.out _ _ ht1 (fun ht => ?_)
     clear hK K ht1
     try simp only [Act.put, List.setIfInBounds_toArray, List.set_cons_zero, List.set_cons_succ]
     refine wpAnyH_take (i := 13) (oi := ⟨some _, _, _, _, _, _⟩) (v := (.bool fd.isSome)) rfl (by kernel_rfl) (by kernel_rfl) (by kernel_rfl) (fun _ _ _ h => h) (Or.inl ⟨by rfl, ?_⟩) ht ?_
     ·intro W9 hSw
      go_simp
     try simp only [Act.put, List.setIfInBounds_toArray, List.set_cons_zero, List.set_cons_succ]
     refine wpAnyH_done (by kernel_rfl) ?_ _
     have HX5 := Lib.hid ht
     clear ht
     go_wp2_with fail
     go_meet
     case rel => exact ⟨rfl, HX5.out⟩
    ·go_simp
     refine via14 (K := K) (fun W9 => Below wz.heap.size wz W9 ∧ wz.heap.size ≤ w8.heap.size ∧ Blk W9 w8.heap.size 31 #[.int .i64 0, .bool false, .bool false, .string ⟨#[]⟩, .int .i64 0, .string ⟨#[]⟩, .slice none 0 0, .slice none 0 0]) ⟨ht.alloc ht.size _, ht.size, Blk.new w8 _ _⟩ ?_
     rintro x3 ⟨ht1, hge, hz⟩
     have HZ := Lib.hid hz
     have HGE := Lib.hid hge
     clear hz hge
     refine hK.out _ _ ht1 (fun ht => ?_)
     clear hK K ht1
     try simp only [Act.put, List.setIfInBounds_toArray, List.set_cons_zero, List.set_cons_succ]
     obtain ⟨gZ, hgZ⟩ : ∃ g, g = w8.heap.size := ⟨_, rfl⟩
     rw [← hgZ] at HZ HGE ⊢
     clear hgZ
     refine wpAnyH_ready (rs := [7]) (by kernel_rfl) (by simp) ?_
     refine AllReadyH.cons (o := ⟨some _, _, _, _, _, _⟩) rfl (fun K hK => ?_) (AllReadyH.nil)
     go_simp
     refine (HFD.out _ ht).mono ?_
     rintro e2 w2 ⟨x2, rfl, hz2, hb2⟩
     obtain ⟨z_1, z_2, z_3, z_4, z_5, z_6, z_7, z_8, z_9, z_a, z_b, z_c, rfl⟩ := In.cells hz2
     have hs : Below wz.heap.size wz w2 := ht.trans (hb2.mono ht.size)
     have HZB := Lib.hid (HZ.out.on hb2)
     clear hz2 hb2 ht
     go_wp2_with fail
     refine hK.out _ _ hs (fun ht => ?_)
     clear hK K hs
     try simp only [Act.put, List.setIfInBounds_toArray, List.set_cons_zero, List.set_cons_succ]
     refine wpAnyH_take (i := 8) (oi := ⟨some _, _, _, _, _, _⟩) (v := (.tuple #[.agg #[.int .i64 z_1, .bool z_2, .bool z_3, .string ⟨z_4.toArray⟩, .int .i64 z_5, .string ⟨z_6.toArray⟩, .slice z_7 z_8 z_9, .slice z_a z_b z_c], .bool fd.isSome])) rfl (by kernel_rfl) (by kernel_rfl) (by kernel_rfl) (fun _ _ _ h => h) (Or.inl ⟨by rfl, ?_⟩) ht ?_
     ·intro W9 hSw
      go_simp
     try simp only [Act.put, List.setIfInBounds_toArray, List.set_cons_zero, List.set_cons_succ]
     refine wpAnyH_take (i := 9) (oi := ⟨some _, _, _, _, _, _⟩) (v := (.agg #[.int .i64 z_1, .bool z_2, .bool z_3, .string ⟨z_4.toArray⟩, .int .i64 z_5, .string ⟨z_6.toArray⟩, .slice z_7 z_8 z_9, .slice z_a z_b z_c])) rfl (by kernel_rfl) (by kernel_rfl) (by kernel_rfl) (fun _ _ _ h => h) (Or.inl ⟨by rfl, ?_⟩) ht ?_
     ·intro W9 hSw
      go_simp
     try simp only [Act.put, List.setIfInBounds_toArray, List.set_cons_zero, List.set_cons_succ]
     refine wpAnyH_take (i := 10) (oi := ⟨some _, _, _, _, _, _⟩) (v := (.bool fd.isSome)) rfl (by kernel_rfl) (by kernel_rfl) (by kernel_rfl) (fun _ _ _ h => h) (Or.inl ⟨by rfl, ?_⟩) ht ?_
     ·intro W9 hSw
      go_simp
     try simp only [Act.put, List.setIfInBounds_toArray, List.set_cons_zero, List.set_cons_succ]
     refine wpAnyH_ready (rs := [12]) (by kernel_rfl) (by simp) ?_
     refine AllReadyH.cons (o := ⟨none, _, _, _, _, _⟩) rfl (fun K hK => ?_) (AllReadyH.nil)
     obtain ⟨q0, q1, q2, q3, q4, q5, q6, q7⟩ := HZB.out.eight
     have zf := HZB.out.frozen
     have zl := HZB.out.lt
     go_simp
     refine via14 (K := K) (fun W9 => Below wz.heap.size wz W9) (below_set8 ht HGE.out _ _ _ _ _ _ _ _) ?_
     rintro x5 ht1
     clear q0 q1 q2 q3 q4 q5 q6 q7 zf zl HZB
     refine hK.out _ _ ht1 (fun ht => ?_)
     clear hK K ht1
     try simp only [Act.put, List.setIfInBounds_toArray, List.set_cons_zero, List.set_cons_succ]
     refine wpAnyH_take (i := 13) (oi := ⟨some _, _, _, _, _, _⟩) (v := (.bool fd.isSome)) rfl (by kernel_rfl) (by kernel_rfl) (by kernel_rfl) (fun _ _ _ h => h) (Or.inl ⟨by rfl, ?_⟩) ht ?_
     ·intro W9 hSw
      go_simp
     try simp only [Act.put, List.setIfInBounds_toArray, List.set_cons_zero, List.set_cons_succ]
     refine wpAnyH_done (by kernel_rfl) ?_ _
     have HX5 := Lib.hid ht
     clear ht
     go_wp2_with fail
     go_meet
     case rel => exact ⟨rfl, HX5.out⟩
   case rest =>
   obtain ⟨rfl, hb9⟩ := hcut
   obtain ⟨wq, hwq⟩ : ∃ W, W = wc := ⟨_, rfl⟩
   subst hwq
   have HB9 := Lib.hid (HBR.out.trans (hb9.mono HBR.out.size))
   clear hb9
   obtain ⟨b0, b1, b2, b3, b4, b5, b6, b7⟩ := (HBV.out _ HB9.out).eight
   have bl := (HBV.out _ HB9.out).lt
   by_cases h5 : vk = 5
   ·have e5 : (vk == 5) = true := by rw [beq_iff_eq]; exact h5
    have d5 : decide (vk = 5) = true := decide_eq_true h5
    have HNT := Lib.hid (show (decide (vk = 5) && ((l.take (j + 1)).any fun x => ((Vl.mk vk vb vn vs vl vm).find (Sh.strOf x)).isNone)) = (mt || fd.isNone) by rw [HNX.out, d5, Bool.true_and])
    rw [d5]
    clear h5
    cases mt <;> cases fd
    all_goals
     go_wp2_with fail
     go_roundw
     case rel => exact ⟨j + 1, by first | (rw [HNT.out]; done) | (rw [HNT.out]; rfl), by go_num, by omega, HB9.out⟩
     case measure => simp [intOf]; omega
   ·have e5 : (vk == 5) = false := by rw [beq_eq_false_iff_ne]; exact h5
    have d5 : decide (vk = 5) = false := decide_eq_false h5
    have HNT := Lib.hid (show (decide (vk = 5) && ((l.take (j + 1)).any fun x => ((Vl.mk vk vb vn vs vl vm).find (Sh.strOf x)).isNone)) = false by rw [d5, Bool.false_and])
    rw [d5]
    clear h5
    go_wp2_with fail
    go_roundw
    case rel => exact ⟨j + 1, by first | (rw [HNT.out]; done) | (rw [HNT.out]; rfl), by go_num, by omega, HB9.out⟩
    case measure => simp [intOf]; omega
  ·obtain rfl : j = l.length := by omega
   have HF2 := Lib.hid (show Ow.fails [114, 101, 113, 117, 105, 114, 101, 100] (.mk k b n s l m) (.mk vk vb vn vs vl vm) = (decide (vk = 5) && (l.take l.length).any fun x => ((Vl.mk vk vb vn vs vl vm).find (Sh.strOf x)).isNone) by rw [List.take_length]; exact HF.out)
   rw [← HF2.out]
   go_wp2_with fail
   go_ret
   exact ⟨rfl, HB0.out.trans (HBR.out.mono HB0.out.size)⟩

theorem refFails_any (nm : List UInt8) (kv v : Vl) (xk xv : Value) (w : World) (hmk : kv.may = true) (hmv : v.may = true) (hsz : v.size ≤ 1000000) (hsl : v.slim 1000000) (hxk : kv.In w.cell? xk) (hxv : v.In w.cell? xv) :
  Calls Tryz.prog 16 #[.string ⟨nm.toArray⟩, xk, xv] w fun e w' => e = .returned (.bool (Ow.fails nm kv v)) ∧ Below w.heap.size w w' := by
 by_cases h : ∃ x ∈ Ow.keys14.map (·.1), nm = x
 ·obtain ⟨x, hx, rfl⟩ := h
  simp only [Ow.keys14, List.map_cons, List.map_nil, List.mem_cons, List.not_mem_nil, or_false] at hx
  rcases hx with h | h | h | h | h | h | h | h | h | h | h
  ·by_cases h3 : Sh.kindOf kv = 3
   ·exact refFails_typeS _ kv v xk xv w hmk hmv hsz hsl hxk hxv ⟨h, h3⟩
   ·exact refFails_typeL _ kv v xk xv w hmk hmv hsz hsl hxk hxv ⟨h, h3⟩
  ·exact refFails_eq _ kv v xk xv w hmk hmv hsz hsl hxk hxv (.inl h)
  ·exact refFails_eq _ kv v xk xv w hmk hmv hsz hsl hxk hxv (.inr h)
  ·exact refFails_cmp _ kv v xk xv w hmk hmv hsz hsl hxk hxv (.inl h)
  ·exact refFails_cmp _ kv v xk xv w hmk hmv hsz hsl hxk hxv (.inr (.inl h))
  ·exact refFails_cmp _ kv v xk xv w hmk hmv hsz hsl hxk hxv (.inr (.inr (.inl h)))
  ·exact refFails_cmp _ kv v xk xv w hmk hmv hsz hsl hxk hxv (.inr (.inr (.inr (.inl h))))
  ·exact refFails_cmp _ kv v xk xv w hmk hmv hsz hsl hxk hxv (.inr (.inr (.inr (.inr (.inl h)))))
  ·exact refFails_cmp _ kv v xk xv w hmk hmv hsz hsl hxk hxv (.inr (.inr (.inr (.inr (.inr h)))))
  ·exact refFails_uniq _ kv v xk xv w hmk hmv hsz hsl hxk hxv h
  ·exact refFails_req _ kv v xk xv w hmk hmv hsz hsl hxk hxv h
 ·exact refFails_none nm kv v xk xv w hmk hmv hsz hsl hxk hxv (fun x hx e => h ⟨x, hx, e⟩)

end Go.Proofs.YtolkfgikomminaaGreatDoor

namespace Go.Proofs.YtolkfgikomminaaGreatDoor
open Go.RowKit Js

theorem Blk.four14 {w : World} {g : Nat} {t : TypeId} {c0 c1 c2 c3 : Value} (h : Blk w g t #[c0, c1, c2, c3]) : w.cell? ⟨g, 0, none⟩ = some c0 ∧ w.cell? ⟨g, 1, none⟩ = some c1 ∧ w.cell? ⟨g, 2, none⟩ = some c2 ∧ w.cell? ⟨g, 3, none⟩ = some c3 := ⟨h.cell 0, h.cell 1, h.cell 2, h.cell 3⟩
def strs14 (t : List (List UInt8)) : List Value := t.map fun n => Value.string ⟨n.toArray⟩
def StrsAt (W : World) (B : Nat) (A : Option Addr) (c : Nat) (t : List (List UInt8)) : Prop := W.ownsRow B 9 1 (.slice A t.length c) t.length (strs14 t)
section
variable {W W' : World} {B : Nat} {A : Option Addr} {c : Nat} {t : List (List UInt8)}
theorem StrsAt.nil (W : World) (B : Nat) : StrsAt W B none 0 [] := World.ownsRow_nil W B _ 1
theorem StrsAt.on (h : StrsAt W B A c t) (hb : Below W.heap.size W W') : StrsAt W' B A c t := own_keep h (fun k _ hk => hb.block k hk)
theorem StrsAt.le (h : StrsAt W B A c t) : t.length ≤ c ∧ c ≤ maxLen ∧ ∀ ad, A = some ad → ∃ g, ad = ⟨g, 0, none⟩ ∧ B ≤ g ∧ g < W.heap.size := by
 have hl := own_le h
 exact ⟨hl.1, hl.2.1, hl.2.2.2⟩
theorem StrsAt.less {B' : Nat} (h : StrsAt W B A c t) (hB : B' ≤ B) : StrsAt W B' A c t := by
 obtain ⟨q1, q2⟩ := h
 refine ⟨q1, q2.imp id ?_⟩
 rintro ⟨g, cap, cur, r1, r2, r3⟩
 exact ⟨g, cap, cur, r1, by omega, r3⟩
theorem strs14_one (t : List (List UInt8)) : ∀ u ∈ strs14 t, u.oneCell' = true := fun u hu => by
 obtain ⟨n, _, rfl⟩ := List.mem_map.1 hu
 rfl
theorem StrsAt.strs (h : StrsAt W B A c t) : Strs W.cell? A t := fun i n hi => by
 have hl := own_le h
 have hil := (List.getElem?_eq_some_iff.1 hi).1
 cases hA : A with
 | none => have := (hl.2.2.1 hA).1; omega
 | some ad =>
  obtain ⟨g, rfl, _⟩ := hl.2.2.2 ad hA
  subst hA
  refine ⟨g, 0, rfl, ?_⟩
  rw [Nat.zero_add]
  exact own_cell h i _ (by unfold strs14; rw [List.getElem?_map, hi]; rfl)
end
theorem infoStr14 : ∃ i, Tryz.prog.info? 9 = some i ∧ i.zero = some (.string ⟨#[]⟩) ∧ i.size = 1 ∧ i.bytes = 16 := by
 have h : (Tryz.prog.info? 9).map (fun i => (i.zero, i.size, i.bytes)) = some (some (.string ⟨#[]⟩), 1, 16) := by kernel_rfl
 cases hq : Tryz.prog.info? 9 with
 | none => rw [hq] at h; cases h
 | some i =>
  rw [hq] at h
  simp only [Option.map_some, Option.some.injEq, Prod.mk.injEq] at h
  exact ⟨i, rfl, h.1, h.2.1, h.2.2⟩
def Ow.failing (keys : List Cm.Key) (v : Vl) : List (List UInt8) := (keys.filter fun k => Ow.fails k.name k.v v).map (·.name)
theorem Ow.failing_next {keys : List Cm.Key} {v : Vl} {k : Nat} (h : k < keys.length) : Ow.failing (keys.take (k + 1)) v = Ow.failing (keys.take k) v ++ (if Ow.fails keys[k].name keys[k].v v = true then [keys[k].name] else []) := by
 unfold Ow.failing
 rw [List.take_succ_eq_append_getElem h, List.filter_append, List.map_append]
 congr 1
 simp only [List.filter_cons, List.filter_nil]
 split <;> rfl
theorem Ow.failing_len (keys : List Cm.Key) (v : Vl) : (Ow.failing keys v).length ≤ keys.length := by
 unfold Ow.failing
 rw [List.length_map]
 exact List.length_filter_le _ _

set_option linter.unusedVariables false in
set_option linter.unusedSimpArgs false in
set_option maxRecDepth 100000 in
set_option maxHeartbeats 8000000 in
theorem refOwn_any (P : Cm.Names) (nall npass : Bool) (keys : List Cm.Key) (tx : List UInt8) (A2 : Option Addr) (c2 : Nat) (v : Vl) (xv : Value) (w : World) (hk : SlKey w.cell? A2 keys) (h1 : keys.length ≤ c2) (h2 : c2 ≤ maxLen) (h3 : keys.length ≤ 1000000) (h4 : ∀ K ∈ keys, K.v.may = true) (hmv : v.may = true) (hsz : v.size ≤ 1000000) (hsl : v.slim 1000000) (hxv : v.In w.cell? xv) :
  Calls Tryz.prog 10 #[.agg #[.string ⟨tx.toArray⟩, .bool nall, .bool npass, .slice A2 keys.length c2], xv] w fun e w' => ∃ (A : Option Addr) (c : Nat), e = .returned (.slice A (Ow.own ⟨P, nall, npass, keys⟩ v).length c) ∧ StrsAt w' w.heap.size A c (Ow.own ⟨P, nall, npass, keys⟩ v) ∧ Below w.heap.size w w' := by
 obtain ⟨v_1, v_2, v_3, v_4, v_5, v_6, v_7, v_8, v_9, v_a, v_b, v_c, rfl⟩ := In.cells hxv
 have HK := Lib.hid hk
 have H4 := Lib.hid h4
 have HXV := Lib.hid hxv
 have HFL := Lib.hid (fun (nm : List UInt8) (kv : Vl) (xk : Value) (W : World) (hb : Below w.heap.size w W) (hm : kv.may = true) (hx : kv.In W.cell? xk) => refFails_any nm kv v xk (.agg #[.int .i64 v_1, .bool v_2, .bool v_3, .string ⟨v_4.toArray⟩, .int .i64 v_5, .string ⟨v_6.toArray⟩, .slice v_7 v_8 v_9, .slice v_a v_b v_c]) W hm hmv hsz hsl hx (In.keep (le_below hb) _ _ hxv))
 unfold maxLen at h2
 have HB0 := Lib.hid (show Below w.heap.size w ((w.alloc (.cells #[.string ⟨tx.toArray⟩, .bool nall, .bool npass, .slice A2 keys.length c2] 39)).alloc (.cells #[.int .i64 v_1, .bool v_2, .bool v_3, .string ⟨v_4.toArray⟩, .int .i64 v_5, .string ⟨v_6.toArray⟩, .slice v_7 v_8 v_9, .slice v_a v_b v_c] 31)) from ((Below.refl _ _).alloc (Nat.le_refl _) _).alloc (by simp) _)
 have HN0 := Lib.hid (show Blk ((w.alloc (.cells #[.string ⟨tx.toArray⟩, .bool nall, .bool npass, .slice A2 keys.length c2] 39)).alloc (.cells #[.int .i64 v_1, .bool v_2, .bool v_3, .string ⟨v_4.toArray⟩, .int .i64 v_5, .string ⟨v_6.toArray⟩, .slice v_7 v_8 v_9, .slice v_a v_b v_c] 31)) w.heap.size 39 #[.string ⟨tx.toArray⟩, .bool nall, .bool npass, .slice A2 keys.length c2] from (Blk.new w _ _).alloc _)
 have HV0 := Lib.hid (show Blk ((w.alloc (.cells #[.string ⟨tx.toArray⟩, .bool nall, .bool npass, .slice A2 keys.length c2] 39)).alloc (.cells #[.int .i64 v_1, .bool v_2, .bool v_3, .string ⟨v_4.toArray⟩, .int .i64 v_5, .string ⟨v_6.toArray⟩, .slice v_7 v_8 v_9, .slice v_a v_b v_c] 31)) (w.heap.size + 1) 31 #[.int .i64 v_1, .bool v_2, .bool v_3, .string ⟨v_4.toArray⟩, .int .i64 v_5, .string ⟨v_6.toArray⟩, .slice v_7 v_8 v_9, .slice v_a v_b v_c] from Blk.new2 w (.cells #[.string ⟨tx.toArray⟩, .bool nall, .bool npass, .slice A2 keys.length c2] 39) 31 _)
 clear hk h4 hmv hsz hsl hxv
 go_enter Tryz.func10, Tryz.ntmps10
 go_upto_region 1 with (fail)
 generalize (w.alloc (.cells #[.string ⟨tx.toArray⟩, .bool nall, .bool npass, .slice A2 keys.length c2] 39)).alloc (.cells #[.int .i64 v_1, .bool v_2, .bool v_3, .string ⟨v_4.toArray⟩, .int .i64 v_5, .string ⟨v_6.toArray⟩, .slice v_7 v_8 v_9, .slice v_a v_b v_c] 31) = w0 at *
 have HBN := Lib.hid (fun (W : World) (h : Below w0.heap.size w0 W) => HN0.out.on h)
 have HBV := Lib.hid (fun (W : World) (h : Below w0.heap.size w0 W) => HV0.out.on h)
 obtain ⟨b0, b1, b2, b3⟩ := HN0.out.four14
 have bl := HN0.out.lt
 obtain ⟨fb0, hfb0⟩ : ∃ q, (nall && !npass) = q := ⟨_, rfl⟩
 have HFB := Lib.hid hfb0
 have HCO := Lib.hid (show Ow.own ⟨P, nall, npass, keys⟩ v = if fb0 = true then [Ow.kFalse] else Ow.failing keys v by
  rw [← hfb0]
  unfold Ow.own
  cases nall <;> cases npass <;> simp <;> rfl)
 clear hfb0
 go_cut [0, 14] from 8 to 14 (fun _ v14 wc => v14 = .bool fb0 ∧ wc = w0)
 case first =>
  go_wp2_with fail
  all_goals
   go_meet
   case rel => exact ⟨by first | (rw [← HFB.out]; done) | (rw [← HFB.out]; rfl) | (rw [← HFB.out]; simp_all), rfl⟩
 case rest =>
 obtain ⟨rfl, hw0⟩ := hcut
 rw [hw0]
 clear hw0 wc
 cases fb0 with
 | true =>
  have hb1 := (Below.refl w0.heap.size w0).alloc (Nat.le_refl _) (.cells #[.string ⟨#[102, 97, 108, 115, 101]⟩] 9)
  have HB1 := Lib.hid (HB0.out.trans (hb1.mono HB0.out.size))
  have HSA := Lib.hid (show StrsAt (w0.alloc (.cells #[.string ⟨#[102, 97, 108, 115, 101]⟩] 9)) w.heap.size (some ⟨w0.heap.size, 0, none⟩) 1 [Ow.kFalse] from ⟨rfl, .inr ⟨_, _, _, rfl, HB0.out.size, Blk.new w0 _ _, Nat.le_refl _, by unfold maxLen; omega, rfl, rfl⟩⟩)
  clear hb1 b0 b1 b2 b3 bl
  go_wp2_with fail
  go_ret
  exact ⟨_, 1, by rw [HCO.out]; rfl, by rw [HCO.out]; exact HSA.out, HB1.out⟩
 | false =>
  have HZ := Lib.hid (StrsAt.nil w0 w0.heap.size)
  obtain ⟨ws, hws⟩ : ∃ W, W = w0 := ⟨_, rfl⟩
  subst hws
  go_wp2_with fail
  go_loopw [5, 6] (fun o5 i6 wr => ∃ (k : Nat) (A5 : Option Addr) (c5 : Nat) (t : List (List UInt8)), o5 = .slice A5 t.length c5 ∧ i6 = .int .i64 k ∧ k ≤ keys.length ∧ t = Ow.failing (keys.take k) v ∧ Below ws.heap.size ws wr ∧ StrsAt wr ws.heap.size A5 c5 t) (fun _ i6 _ => keys.length - (intOf i6).toNat)
  case atStart => exact ⟨0, none, 0, [], rfl, rfl, Nat.zero_le _, rfl, Below.refl _ _, HZ.out⟩
  case round =>
   obtain ⟨k, A5, c5, t, rfl, rfl, hkq, ht, hbr, hsr⟩ := hrel
   obtain ⟨wz, hwz⟩ : ∃ W, W = wr := ⟨_, rfl⟩
   subst hwz
   have HBR := Lib.hid hbr
   have HSR := Lib.hid hsr
   have HT := Lib.hid ht
   clear hbr hsr ht b0 b1 b2 b3 bl HZ
   obtain ⟨b0, b1, b2, b3⟩ := (HBN.out _ HBR.out).four14
   have bl := (HBN.out _ HBR.out).lt
   by_cases hkl : k < keys.length
   ·obtain ⟨g3, o3, cs3, rfl, hi3, hc3⟩ := HK.out k _ (List.getElem?_eq_getElem hkl)
    obtain ⟨j_1, j_2, j_3, j_4, j_5, j_6, j_7, j_8, j_9, j_a, j_b, j_c, A4, c4, rfl, hv3, _, _, _⟩ := hi3.cells
    have HLW := Lib.hid (fun (W : World) (h : Below wz.heap.size wz W) => le_below (HB0.out.trans ((HBR.out.trans (h.mono HBR.out.size)).mono HB0.out.size)))
    have HD0 := Lib.hid (fun (W : World) (h : Below wz.heap.size wz W) => (show W.cell? ⟨g3, o3 + k * 10, none⟩ = _ from HLW.out W h _ _ (hc3 0 _ rfl)))
    have HD8 := Lib.hid (fun (W : World) (h : Below wz.heap.size wz W) => (show W.cell? ⟨g3, o3 + k * 10 + 1, none⟩ = _ ∧ W.cell? ⟨g3, o3 + k * 10 + 1 + 1, none⟩ = _ ∧ W.cell? ⟨g3, o3 + k * 10 + 1 + 2, none⟩ = _ ∧ W.cell? ⟨g3, o3 + k * 10 + 1 + 3, none⟩ = _ ∧ W.cell? ⟨g3, o3 + k * 10 + 1 + 4, none⟩ = _ ∧ W.cell? ⟨g3, o3 + k * 10 + 1 + 5, none⟩ = _ ∧ W.cell? ⟨g3, o3 + k * 10 + 1 + 6, none⟩ = _ ∧ W.cell? ⟨g3, o3 + k * 10 + 1 + 7, none⟩ = _ from ⟨HLW.out W h _ _ (hc3 1 _ rfl), HLW.out W h _ _ (hc3 2 _ rfl), HLW.out W h _ _ (hc3 3 _ rfl), HLW.out W h _ _ (hc3 4 _ rfl), HLW.out W h _ _ (hc3 5 _ rfl), HLW.out W h _ _ (hc3 6 _ rfl), HLW.out W h _ _ (hc3 7 _ rfl), HLW.out W h _ _ (hc3 8 _ rfl)⟩))
    have HNX := Lib.hid (Ow.failing_next (v := v) hkl)
    have HMK := Lib.hid (H4.out _ (List.getElem_mem hkl))
    have HTL := Lib.hid (show t.length ≤ 1000000 by
     rw [HT.out]
     have := Ow.failing_len (keys.take k) v
     rw [List.length_take] at this
     omega)
    have hkqi : (k : Int) < (keys.length : Int) := by omega
    have HFA := Lib.hid (fun (W : World) (h : Below wz.heap.size wz W) => HFL.out keys[k].name keys[k].v (.agg #[.int .i64 j_1, .bool j_2, .bool j_3, .string ⟨j_4.toArray⟩, .int .i64 j_5, .string ⟨j_6.toArray⟩, .slice j_7 j_8 j_9, .slice j_a j_b j_c]) W (HB0.out.trans ((HBR.out.trans (h.mono HBR.out.size)).mono HB0.out.size)) HMK.out (In.keep (HLW.out W h) _ _ hv3))
    clear hi3 hc3 hv3 HMK
    generalize keys[k]'hkl = K at *
    obtain ⟨nm, kv, kids⟩ := K
    simp only at HFA HNX HD0
    obtain ⟨fb, hfb⟩ : ∃ q, Ow.fails nm kv v = q := ⟨_, rfl⟩
    rw [hfb] at HFA HNX
    clear hfb
    go_upto_region 7 with (fail)
    clear b0 b1 b2 b3 bl
    refine wp_region_held_drew (S := fun W9 => Below wz.heap.size wz W9) (by kernel_rfl) (show Below wz.heap.size wz wz.drew from below_drewN (Below.refl _ _) 1) (fun ht => ?_)
    generalize wz.drew = w8 at *
    refine wpAnyH_take (i := 0) (oi := ⟨some _, _, _, _, _, _⟩) (v := (.pointer (some ⟨w.heap.size, 3, none⟩))) rfl (by kernel_rfl) (by kernel_rfl) (by kernel_rfl) (fun _ _ _ h => h) (Or.inl ⟨by rfl, ?_⟩) ht ?_
    ·intro W9 hSw
     go_simp
    try simp only [Act.put, List.setIfInBounds_toArray, List.set_cons_zero, List.set_cons_succ]
    refine wpAnyH_take (i := 1) (oi := ⟨some _, _, _, _, _, _⟩) (v := (.slice (some ⟨g3, o3, none⟩) keys.length c2)) rfl (by kernel_rfl) (by kernel_rfl) (by kernel_rfl) (fun _ _ _ h => h) (Or.inl ⟨by rfl, ?_⟩) ht ?_
    ·intro W9 hSw
     obtain ⟨b0, b1, b2, b3⟩ := (HBN.out W9 (HBR.out.trans (hSw.mono HBR.out.size))).four14
     have bl := (HBN.out W9 (HBR.out.trans (hSw.mono HBR.out.size))).lt
     go_simp
    try simp only [Act.put, List.setIfInBounds_toArray, List.set_cons_zero, List.set_cons_succ]
    refine wpAnyH_take (i := 2) (oi := ⟨some _, _, _, _, _, _⟩) (v := (.int .i64 k)) rfl (by kernel_rfl) (by kernel_rfl) (by kernel_rfl) (fun _ _ _ h => h) (Or.inl ⟨by rfl, ?_⟩) ht ?_
    ·intro W9 hSw
     go_simp
    try simp only [Act.put, List.setIfInBounds_toArray, List.set_cons_zero, List.set_cons_succ]
    refine wpAnyH_take (i := 3) (oi := ⟨some _, _, _, _, _, _⟩) (v := (.pointer (some ⟨g3, o3 + k * 10, none⟩))) rfl (by kernel_rfl) (by kernel_rfl) (by kernel_rfl) (fun _ _ _ h => h) (Or.inl ⟨by rfl, ?_⟩) ht ?_
    ·intro W9 hSw
     go_simp
    try simp only [Act.put, List.setIfInBounds_toArray, List.set_cons_zero, List.set_cons_succ]
    refine wpAnyH_take (i := 4) (oi := ⟨some _, _, _, _, _, _⟩) (v := (.pointer (some ⟨g3, o3 + k * 10, none⟩))) rfl (by kernel_rfl) (by kernel_rfl) (by kernel_rfl) (fun _ _ _ h => h) (Or.inl ⟨by rfl, ?_⟩) ht ?_
    ·intro W9 hSw
     go_simp
    try simp only [Act.put, List.setIfInBounds_toArray, List.set_cons_zero, List.set_cons_succ]
    refine wpAnyH_take (i := 5) (oi := ⟨some _, _, _, _, _, _⟩) (v := (.string ⟨nm.toArray⟩)) rfl (by kernel_rfl) (by kernel_rfl) (by kernel_rfl) (fun _ _ _ h => h) (Or.inl ⟨by rfl, ?_⟩) ht ?_
    ·intro W9 hSw
     have d0 := HD0.out W9 hSw
     have hgl3 := World.block_lt_of_cell? _ _ d0
     go_simp
    try simp only [Act.put, List.setIfInBounds_toArray, List.set_cons_zero, List.set_cons_succ]
    refine wpAnyH_take (i := 6) (oi := ⟨some _, _, _, _, _, _⟩) (v := (.pointer (some ⟨w.heap.size, 3, none⟩))) rfl (by kernel_rfl) (by kernel_rfl) (by kernel_rfl) (fun _ _ _ h => h) (Or.inl ⟨by rfl, ?_⟩) ht ?_
    ·intro W9 hSw
     go_simp
    try simp only [Act.put, List.setIfInBounds_toArray, List.set_cons_zero, List.set_cons_succ]
    refine wpAnyH_take (i := 7) (oi := ⟨some _, _, _, _, _, _⟩) (v := (.slice (some ⟨g3, o3, none⟩) keys.length c2)) rfl (by kernel_rfl) (by kernel_rfl) (by kernel_rfl) (fun _ _ _ h => h) (Or.inl ⟨by rfl, ?_⟩) ht ?_
    ·intro W9 hSw
     obtain ⟨b0, b1, b2, b3⟩ := (HBN.out W9 (HBR.out.trans (hSw.mono HBR.out.size))).four14
     have bl := (HBN.out W9 (HBR.out.trans (hSw.mono HBR.out.size))).lt
     go_simp
    try simp only [Act.put, List.setIfInBounds_toArray, List.set_cons_zero, List.set_cons_succ]
    refine wpAnyH_take (i := 8) (oi := ⟨some _, _, _, _, _, _⟩) (v := (.int .i64 k)) rfl (by kernel_rfl) (by kernel_rfl) (by kernel_rfl) (fun _ _ _ h => h) (Or.inl ⟨by rfl, ?_⟩) ht ?_
    ·intro W9 hSw
     go_simp
    try simp only [Act.put, List.setIfInBounds_toArray, List.set_cons_zero, List.set_cons_succ]
    refine wpAnyH_take (i := 9) (oi := ⟨some _, _, _, _, _, _⟩) (v := (.pointer (some ⟨g3, o3 + k * 10, none⟩))) rfl (by kernel_rfl) (by kernel_rfl) (by kernel_rfl) (fun _ _ _ h => h) (Or.inl ⟨by rfl, ?_⟩) ht ?_
    ·intro W9 hSw
     go_simp
    try simp only [Act.put, List.setIfInBounds_toArray, List.set_cons_zero, List.set_cons_succ]
    refine wpAnyH_take (i := 10) (oi := ⟨some _, _, _, _, _, _⟩) (v := (.pointer (some ⟨g3, o3 + k * 10 + 1, none⟩))) rfl (by kernel_rfl) (by kernel_rfl) (by kernel_rfl) (fun _ _ _ h => h) (Or.inl ⟨by rfl, ?_⟩) ht ?_
    ·intro W9 hSw
     go_simp
    try simp only [Act.put, List.setIfInBounds_toArray, List.set_cons_zero, List.set_cons_succ]
    refine wpAnyH_take (i := 11) (oi := ⟨some _, _, _, _, _, _⟩) (v := (.agg #[.int .i64 j_1, .bool j_2, .bool j_3, .string ⟨j_4.toArray⟩, .int .i64 j_5, .string ⟨j_6.toArray⟩, .slice j_7 j_8 j_9, .slice j_a j_b j_c])) rfl (by kernel_rfl) (by kernel_rfl) (by kernel_rfl) (fun _ _ _ h => h) (Or.inl ⟨by rfl, ?_⟩) ht ?_
    ·intro W9 hSw
     obtain ⟨c0, c1, c2x, c3x, c4x, c5x, c6x, c7x⟩ := HD8.out W9 hSw
     have hgl3 := World.block_lt_of_cell? _ _ c0
     go_simp
    try simp only [Act.put, List.setIfInBounds_toArray, List.set_cons_zero, List.set_cons_succ]
    refine wpAnyH_take (i := 12) (oi := ⟨some _, _, _, _, _, _⟩) (v := (.agg #[.int .i64 v_1, .bool v_2, .bool v_3, .string ⟨v_4.toArray⟩, .int .i64 v_5, .string ⟨v_6.toArray⟩, .slice v_7 v_8 v_9, .slice v_a v_b v_c])) rfl (by kernel_rfl) (by kernel_rfl) (by kernel_rfl) (fun _ _ _ h => h) (Or.inl ⟨by rfl, ?_⟩) ht ?_
    ·intro W9 hSw
     obtain ⟨a0, a1, a2, a3, a4, a5, a6, a7⟩ := (HBV.out W9 (HBR.out.trans (hSw.mono HBR.out.size))).eight
     have al := (HBV.out W9 (HBR.out.trans (hSw.mono HBR.out.size))).lt
     go_simp
    try simp only [Act.put, List.setIfInBounds_toArray, List.set_cons_zero, List.set_cons_succ]
    refine wpAnyH_ready (rs := [13]) (by kernel_rfl) (by simp) ?_
    refine AllReadyH.cons (o := ⟨some _, _, _, _, _, _⟩) rfl (fun K hK => ?_) (AllReadyH.nil)
    go_simp
    refine (HFA.out _ ht).mono ?_
    rintro e9 w9 ⟨rfl, hb9⟩
    have hb9 := ht.trans (hb9.mono ht.size)
    clear ht
    go_wp2_with fail
    refine hK.out _ _ hb9 (fun ht => ?_)
    clear hK K hb9
    try simp only [Act.put, List.setIfInBounds_toArray, List.set_cons_zero, List.set_cons_succ]
    refine wpAnyH_take (i := 14) (oi := ⟨some _, _, _, _, _, _⟩) (v := (.bool fb)) rfl (by kernel_rfl) (by kernel_rfl) (by kernel_rfl) (fun _ _ _ h => h) (Or.inl ⟨by rfl, ?_⟩) ht ?_
    ·intro W9 hSw
     go_simp
    try simp only [Act.put, List.setIfInBounds_toArray, List.set_cons_zero, List.set_cons_succ]
    refine wpAnyH_done (by kernel_rfl) ?_ _
    have HB9 := Lib.hid (HBR.out.trans (ht.mono HBR.out.size))
    have HS9 := Lib.hid (HSR.out.on ht)
    have HTW := Lib.hid ht
    clear ht
    obtain ⟨b0, b1, b2, b3⟩ := (HBN.out _ HB9.out).four14
    have bl := (HBN.out _ HB9.out).lt
    cases fb with
    | false =>
     go_wp2_with fail
     go_roundw
     case rel => exact ⟨k + 1, A5, c5, t, rfl, by go_num, by omega, by rw [HNX.out, HT.out]; simp, HB9.out, HS9.out⟩
     case measure => simp [intOf]; omega
    | true =>
     have d0 := HD0.out _ HTW.out
     have hgl3 := World.block_lt_of_cell? _ _ d0
     have hb7 := (Below.refl w9.heap.size w9).alloc (Nat.le_refl _) (.cells #[.string ⟨nm.toArray⟩] 9)
     have HB7 := Lib.hid (HB9.out.trans (hb7.mono HB9.out.size))
     have HS7 := Lib.hid (HS9.out.on hb7)
     have HNW := Lib.hid (Blk.new w9 9 #[.string ⟨nm.toArray⟩])
     have HSR1 := Lib.hid (show SrcX (w9.alloc (.cells #[.string ⟨nm.toArray⟩] 9)) (some ⟨w9.heap.size, 0, none⟩) 1 (strs14 [nm]) from ⟨(fun e => by cases e), fun ad e j u hu => by injection e with e; subst e; exact World.news_of_block HNW.out j u hu⟩)
     have HSZ := Lib.hid (show ws.heap.size ≤ (w9.alloc (.cells #[.string ⟨nm.toArray⟩] 9)).heap.size from HB7.out.size)
     have HLN := Lib.hid (show t.length + 1 ≤ maxLen ∧ (t.length + 1) * 16 ≤ 140737488355328 from by have := HTL.out; unfold maxLen; omega)
     obtain ⟨i0, hi0, hz0, hz1, hz2⟩ := infoStr14
     clear hb7
     go_wp2_with (at_builtin; refine wpList_append_srcx _ rfl _ _ _ rfl ws.heap.size 9 i0 _ 1 16 Tryz.underlying35 hi0 hz0 hz1 hz2 rfl (by decide) (.slice A5 t.length c5) t.length (strs14 t) rfl HS7.out (some ⟨w9.heap.size, 0, none⟩) 1 1 (strs14 [nm]) rfl rfl HSR1.out (strs14_one _) HLN.out.1 HLN.out.2 HSZ.out (t.length + 1) rfl ?_; intro A8 c8 x8 hown hgr; have HOWN := Lib.hid hown; have HGR := Lib.hid hgr; clear hown hgr)
     have HB8 := Lib.hid (show Below ws.heap.size ws x8 from HB7.out.grown HGR.out HB7.out.size (fun b hb => by
      cases A5 with
      | none => cases hb
      | some ad =>
       obtain ⟨g, rfl, hg, _⟩ := HSR.out.le.2.2 ad rfl
       have : b = g := by simpa [Value.ownBlock] using hb.symm
       omega))
     have HS8 := Lib.hid (show StrsAt x8 ws.heap.size A8 c8 (t ++ [nm]) by
      unfold StrsAt
      rw [show strs14 (t ++ [nm]) = strs14 t ++ strs14 [nm] by simp [strs14], List.length_append, List.length_singleton]
      exact HOWN.out)
     go_roundw
     case rel => exact ⟨k + 1, A8, c8, t ++ [nm], by rw [List.length_append]; rfl, by go_num, by omega, by rw [HNX.out, HT.out]; rfl, HB8.out, HS8.out⟩
     case measure => simp [intOf]; omega
   ·obtain rfl : k = keys.length := by omega
    have HTT := Lib.hid (show Ow.own ⟨P, nall, npass, keys⟩ v = t by rw [HCO.out, HT.out, List.take_length]; rfl)
    go_wp2_with fail
    go_ret
    exact ⟨A5, c5, by rw [HTT.out]; rfl, by rw [HTT.out]; exact HSR.out.less HB0.out.size, HB0.out.trans (HBR.out.mono HB0.out.size)⟩

end Go.Proofs.YtolkfgikomminaaGreatDoor


