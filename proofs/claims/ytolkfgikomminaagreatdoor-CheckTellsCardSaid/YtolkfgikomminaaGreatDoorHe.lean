/- The document's Fails of layer 14 (check): type. (By gen_he.py.) -/
import Derived.Test.YtolkfgikomminaaGreatDoorHb
namespace Go.Proofs.YtolkfgikomminaaGreatDoor
open Go.RowKit Js

set_option linter.unusedVariables false in
set_option linter.unusedSimpArgs false in
set_option maxRecDepth 100000 in
set_option maxHeartbeats 8000000 in
theorem refFails_typeL (nm : List UInt8) (kv v : Vl) (xk xv : Value) (w : World) (hmk : kv.may = true) (hmv : v.may = true) (hsz : v.size ≤ 1000000) (hsl : v.slim 1000000) (hxk : kv.In w.cell? xk) (hxv : v.In w.cell? xv) :
  nm = [116, 121, 112, 101] ∧ ¬ Sh.kindOf kv = 3 →
  Calls Tryz.prog 16 #[.string ⟨nm.toArray⟩, xk, xv] w fun e w' => e = .returned (.bool (Ow.fails nm kv v)) ∧ Below w.heap.size w w' := by
 intro HNM
 obtain ⟨k, b, n, s, l, m⟩ := kv
 obtain ⟨vk, vb, vn, vs, vl, vm⟩ := v
 obtain ⟨A, e, B, d, rfl, q1, q2, q3, q4, q5, q6⟩ := In.form hxk
 obtain ⟨Av, ev, Bv, dv, rfl, r1, r2, r3, r4, r5, r6⟩ := In.form hxv
 have HXK := Lib.hid hxk
 have HXV := Lib.hid hxv
 have HLK := Lib.hid (show SlL w.cell? A l from q5)
 have HLV := Lib.hid (show SlL w.cell? Av vl from r5)
 have HQ2 := Lib.hid q2
 have HR2 := Lib.hid r2
 have hsk := (mayNum_May (may_own hmk).2.2.2.2.2.2.2.1).small
 have hsv := (mayNum_May (may_own hmv).2.2.2.2.2.2.2.1).small
 have hvl : vl.length ≤ 1000000 := by
  have h : vl.length ≤ sizeL vl := sizeL_len vl
  simp only [Vl.size] at hsz; omega
 have hvs : vs.length ≤ 1000000 := by simp only [Vl.slim] at hsl; exact hsl.2.1
 unfold maxLen at q2 r2
 have HB0 := Lib.hid (show Below w.heap.size w ((w.alloc (.cells #[.int .i64 k, .bool b, .bool n.neg, .string ⟨n.digits.toArray⟩, .int .i64 n.exp, .string ⟨s.toArray⟩, .slice A l.length e, .slice B m.length d] 31)).alloc (.cells #[.int .i64 vk, .bool vb, .bool vn.neg, .string ⟨vn.digits.toArray⟩, .int .i64 vn.exp, .string ⟨vs.toArray⟩, .slice Av vl.length ev, .slice Bv vm.length dv] 31)) from ((Below.refl _ _).alloc (Nat.le_refl _) _).alloc (by simp) _)
 have HK0 := Lib.hid (show Blk ((w.alloc (.cells #[.int .i64 k, .bool b, .bool n.neg, .string ⟨n.digits.toArray⟩, .int .i64 n.exp, .string ⟨s.toArray⟩, .slice A l.length e, .slice B m.length d] 31)).alloc (.cells #[.int .i64 vk, .bool vb, .bool vn.neg, .string ⟨vn.digits.toArray⟩, .int .i64 vn.exp, .string ⟨vs.toArray⟩, .slice Av vl.length ev, .slice Bv vm.length dv] 31)) w.heap.size 31 #[.int .i64 k, .bool b, .bool n.neg, .string ⟨n.digits.toArray⟩, .int .i64 n.exp, .string ⟨s.toArray⟩, .slice A l.length e, .slice B m.length d] from (Blk.new w 31 _).alloc _)
 have HV0 := Lib.hid (show Blk ((w.alloc (.cells #[.int .i64 k, .bool b, .bool n.neg, .string ⟨n.digits.toArray⟩, .int .i64 n.exp, .string ⟨s.toArray⟩, .slice A l.length e, .slice B m.length d] 31)).alloc (.cells #[.int .i64 vk, .bool vb, .bool vn.neg, .string ⟨vn.digits.toArray⟩, .int .i64 vn.exp, .string ⟨vs.toArray⟩, .slice Av vl.length ev, .slice Bv vm.length dv] 31)) (w.heap.size + 1) 31 #[.int .i64 vk, .bool vb, .bool vn.neg, .string ⟨vn.digits.toArray⟩, .int .i64 vn.exp, .string ⟨vs.toArray⟩, .slice Av vl.length ev, .slice Bv vm.length dv] from Blk.new2 w (.cells #[.int .i64 k, .bool b, .bool n.neg, .string ⟨n.digits.toArray⟩, .int .i64 n.exp, .string ⟨s.toArray⟩, .slice A l.length e, .slice B m.length d] 31) 31 _)
 have hmk2 := hmk
 have hmv2 := hmv
 clear hxk hxv q3 q4 q5 q6 r3 r4 r5 r6 hsz hsl hmk hmv
 go_enter Tryz.func16, Tryz.ntmps16
 go_upto_region 1 with (fail)
 generalize (w.alloc (.cells #[.int .i64 k, .bool b, .bool n.neg, .string ⟨n.digits.toArray⟩, .int .i64 n.exp, .string ⟨s.toArray⟩, .slice A l.length e, .slice B m.length d] 31)).alloc (.cells #[.int .i64 vk, .bool vb, .bool vn.neg, .string ⟨vn.digits.toArray⟩, .int .i64 vn.exp, .string ⟨vs.toArray⟩, .slice Av vl.length ev, .slice Bv vm.length dv] 31) = w0 at *
 have HBK := Lib.hid (fun (W : World) (h : Below w0.heap.size w0 W) => HK0.out.on h)
 have HBV := Lib.hid (fun (W : World) (h : Below w0.heap.size w0 W) => HV0.out.on h)
 have HCH := Lib.hid (fun W => refChars_any ⟨vs.toArray⟩ W (by rw [Lib.size_mk]; omega))
 obtain ⟨ct, hct⟩ : ∃ ct, Ow.chars vs = ct := ⟨_, rfl⟩
 have hctl : ct ≤ 1000000 := by rw [← hct]; exact Nat.le_trans (Ow.chars_le vs) hvs
 obtain ⟨c1, hc1⟩ : ∃ c, Nm.count (ct : Int) = c := ⟨_, rfl⟩
 have hcm1 : Nm.Small c1 := by rw [← hc1]; exact (Nm.countMay14 ct (by omega)).small
 obtain ⟨c2, hc2⟩ : ∃ c, Nm.count (vl.length : Int) = c := ⟨_, rfl⟩
 have hcm2 : Nm.Small c2 := by rw [← hc2]; exact (Nm.countMay14 vl.length (by omega)).small
 have HO1 := Lib.hid (fun W => refOf_any (ct : Int) W (by omega) (by omega))
 have HO2 := Lib.hid (fun W => refOf_any (vl.length : Int) W (by omega) (by omega))
 rw [show (Nm.parse (Lib.itoa (ct : Int))).1 = c1 from hc1] at HO1
 rw [show (Nm.parse (Lib.itoa (vl.length : Int))).1 = c2 from hc2] at HO2
 unfold numV at HO1 HO2
 rw [show (⟨vs.toArray⟩ : ByteArray).data.toList = vs from rfl, hct] at HCH
 have HM1 := Lib.hid (fun W => refCmp_any c1.neg c1.digits c1.exp n.neg n.digits n.exp W hcm1 hsk)
 have HM2 := Lib.hid (fun W => refCmp_any c2.neg c2.digits c2.exp n.neg n.digits n.exp W hcm2 hsk)
 have HM3 := Lib.hid (fun W => refCmp_any vn.neg vn.digits vn.exp n.neg n.digits n.exp W hsv hsk)
 obtain ⟨tx, htx⟩ : ∃ q, Nm.refCmp c1 n = q := ⟨_, rfl⟩
 obtain ⟨mn, hmn⟩ : ∃ q, Nm.refCmp c2 n = q := ⟨_, rfl⟩
 obtain ⟨sz, hsz⟩ : ∃ q, Nm.refCmp vn n = q := ⟨_, rfl⟩
 rw [show Nm.refCmp ⟨c1.neg, c1.digits, c1.exp⟩ ⟨n.neg, n.digits, n.exp⟩ = tx from htx] at HM1
 rw [show Nm.refCmp ⟨c2.neg, c2.digits, c2.exp⟩ ⟨n.neg, n.digits, n.exp⟩ = mn from hmn] at HM2
 rw [show Nm.refCmp ⟨vn.neg, vn.digits, vn.exp⟩ ⟨n.neg, n.digits, n.exp⟩ = sz from hsz] at HM3
 have HTX := Lib.hid (show Nm.refCmp (Nm.count (Ow.chars vs)) n = tx by rw [hct, hc1, htx])
 have HMN := Lib.hid (show Nm.refCmp (Nm.count vl.length) n = mn by rw [hc2, hmn])
 have HSZ := Lib.hid hsz
 clear hct hc1 hc2 hcm1 hcm2 htx hmn hsz hsk hsv
 refine wp_region_held_drew (S := fun W9 => Below w0.heap.size w0 W9) (by kernel_rfl) (show Below w0.heap.size w0 w0.drew from below_drewN (Below.refl _ _) 1) (fun ht => ?_)
 generalize w0.drew = w0d at *
 refine wpAnyH_take (i := 0) (oi := ⟨some _, _, _, _, _, _⟩) (v := (.pointer (some ⟨w.heap.size + 1, 5, none⟩))) rfl (by kernel_rfl) (by kernel_rfl) (by kernel_rfl) (fun _ _ _ h => h) (Or.inl ⟨by rfl, ?_⟩) ht ?_
 ·intro W9 hSw
  go_simp
 try simp only [Act.put, List.setIfInBounds_toArray, List.set_cons_zero, List.set_cons_succ]
 refine wpAnyH_take (i := 1) (oi := ⟨some _, _, _, _, _, _⟩) (v := (.string ⟨vs.toArray⟩)) rfl (by kernel_rfl) (by kernel_rfl) (by kernel_rfl) (fun _ _ _ h => h) (Or.inl ⟨by rfl, ?_⟩) ht ?_
 ·intro W9 hSw
  obtain ⟨b0, b1, b2, b3, b4, b5, b6, b7⟩ := (HBV.out W9 hSw).eight
  have bl := (HBV.out W9 hSw).lt
  go_simp
 try simp only [Act.put, List.setIfInBounds_toArray, List.set_cons_zero, List.set_cons_succ]
 refine wpAnyH_take (i := 4) (oi := ⟨some _, _, _, _, _, _⟩) (v := (.pointer (some ⟨w.heap.size, 2, none⟩))) rfl (by kernel_rfl) (by kernel_rfl) (by kernel_rfl) (fun _ _ _ h => h) (Or.inl ⟨by rfl, ?_⟩) ht ?_
 ·intro W9 hSw
  go_simp
 try simp only [Act.put, List.setIfInBounds_toArray, List.set_cons_zero, List.set_cons_succ]
 refine wpAnyH_take (i := 5) (oi := ⟨some _, _, _, _, _, _⟩) (v := (.agg #[.bool n.neg, .string ⟨n.digits.toArray⟩, .int .i64 n.exp])) rfl (by kernel_rfl) (by kernel_rfl) (by kernel_rfl) (fun _ _ _ h => h) (Or.inl ⟨by rfl, ?_⟩) ht ?_
 ·intro W9 hSw
  obtain ⟨a0, a1, a2, a3, a4, a5, a6, a7⟩ := (HBK.out W9 hSw).eight
  have al := (HBK.out W9 hSw).lt
  go_simp
 try simp only [Act.put, List.setIfInBounds_toArray, List.set_cons_zero, List.set_cons_succ]
 refine wpAnyH_ready (rs := [2]) (by kernel_rfl) (by simp) ?_
 refine AllReadyH.cons (o := ⟨some _, _, _, _, _, _⟩) rfl (fun K hK => ?_) (AllReadyH.nil)
 go_simp
 refine (HCH.out _).mono ?_
 rintro e1 w1 ⟨rfl, rfl⟩
 go_wp2_with fail
 refine hK.out _ _ ht (fun ht => ?_)
 clear hK K
 try simp only [Act.put, List.setIfInBounds_toArray, List.set_cons_zero, List.set_cons_succ]
 refine wpAnyH_ready (rs := [3]) (by kernel_rfl) (by simp) ?_
 refine AllReadyH.cons (o := ⟨some _, _, _, _, _, _⟩) rfl (fun K hK => ?_) (AllReadyH.nil)
 go_simp
 refine (HO1.out _).mono ?_
 rintro e2 w2 ⟨rfl, hb2⟩
 have hb2 := ht.trans (hb2.mono ht.size)
 go_wp2_with fail
 refine hK.out _ _ hb2 (fun ht => ?_)
 clear hK K hb2
 try simp only [Act.put, List.setIfInBounds_toArray, List.set_cons_zero, List.set_cons_succ]
 refine wpAnyH_ready (rs := [6]) (by kernel_rfl) (by simp) ?_
 refine AllReadyH.cons (o := ⟨some _, _, _, _, _, _⟩) rfl (fun K hK => ?_) (AllReadyH.nil)
 go_simp
 refine (HM1.out _).mono ?_
 rintro e3 w3 ⟨rfl, hb3⟩
 have hb3 := ht.trans (hb3.mono ht.size)
 go_wp2_with fail
 refine hK.out _ _ hb3 (fun ht => ?_)
 clear hK K hb3
 try simp only [Act.put, List.setIfInBounds_toArray, List.set_cons_zero, List.set_cons_succ]
 refine wpAnyH_take (i := 7) (oi := ⟨some _, _, _, _, _, _⟩) (v := (.int .i64 tx)) rfl (by kernel_rfl) (by kernel_rfl) (by kernel_rfl) (fun _ _ _ h => h) (Or.inl ⟨by rfl, ?_⟩) ht ?_
 ·intro W9 hSw
  go_simp
 try simp only [Act.put, List.setIfInBounds_toArray, List.set_cons_zero, List.set_cons_succ]
 refine wpAnyH_done (by kernel_rfl) ?_ _
 have HW3 := Lib.hid ht
 clear ht HCH HO1 HM1
 go_upto_region 2 with (fail)
 refine wp_region_held_drew (S := fun W9 => Below w0.heap.size w0 W9) (by kernel_rfl) (show Below w0.heap.size w0 w3.drew from below_drewN HW3.out 1) (fun ht => ?_)
 generalize w3.drew = w4 at *
 refine wpAnyH_take (i := 0) (oi := ⟨some _, _, _, _, _, _⟩) (v := (.pointer (some ⟨w.heap.size + 1, 6, none⟩))) rfl (by kernel_rfl) (by kernel_rfl) (by kernel_rfl) (fun _ _ _ h => h) (Or.inl ⟨by rfl, ?_⟩) ht ?_
 ·intro W9 hSw
  go_simp
 try simp only [Act.put, List.setIfInBounds_toArray, List.set_cons_zero, List.set_cons_succ]
 refine wpAnyH_take (i := 1) (oi := ⟨some _, _, _, _, _, _⟩) (v := (.slice Av vl.length ev)) rfl (by kernel_rfl) (by kernel_rfl) (by kernel_rfl) (fun _ _ _ h => h) (Or.inl ⟨by rfl, ?_⟩) ht ?_
 ·intro W9 hSw
  obtain ⟨b0, b1, b2, b3, b4, b5, b6, b7⟩ := (HBV.out W9 hSw).eight
  have bl := (HBV.out W9 hSw).lt
  go_simp
 try simp only [Act.put, List.setIfInBounds_toArray, List.set_cons_zero, List.set_cons_succ]
 refine wpAnyH_take (i := 2) (oi := ⟨some _, _, _, _, _, _⟩) (v := (.int .i64 vl.length)) rfl (by kernel_rfl) (by kernel_rfl) (by kernel_rfl) (fun _ _ _ h => h) (Or.inl ⟨by rfl, ?_⟩) ht ?_
 ·intro W9 hSw
  go_simp
 try simp only [Act.put, List.setIfInBounds_toArray, List.set_cons_zero, List.set_cons_succ]
 refine wpAnyH_take (i := 4) (oi := ⟨some _, _, _, _, _, _⟩) (v := (.pointer (some ⟨w.heap.size, 2, none⟩))) rfl (by kernel_rfl) (by kernel_rfl) (by kernel_rfl) (fun _ _ _ h => h) (Or.inl ⟨by rfl, ?_⟩) ht ?_
 ·intro W9 hSw
  go_simp
 try simp only [Act.put, List.setIfInBounds_toArray, List.set_cons_zero, List.set_cons_succ]
 refine wpAnyH_take (i := 5) (oi := ⟨some _, _, _, _, _, _⟩) (v := (.agg #[.bool n.neg, .string ⟨n.digits.toArray⟩, .int .i64 n.exp])) rfl (by kernel_rfl) (by kernel_rfl) (by kernel_rfl) (fun _ _ _ h => h) (Or.inl ⟨by rfl, ?_⟩) ht ?_
 ·intro W9 hSw
  obtain ⟨a0, a1, a2, a3, a4, a5, a6, a7⟩ := (HBK.out W9 hSw).eight
  have al := (HBK.out W9 hSw).lt
  go_simp
 try simp only [Act.put, List.setIfInBounds_toArray, List.set_cons_zero, List.set_cons_succ]
 refine wpAnyH_ready (rs := [3]) (by kernel_rfl) (by simp) ?_
 refine AllReadyH.cons (o := ⟨some _, _, _, _, _, _⟩) rfl (fun K hK => ?_) (AllReadyH.nil)
 go_simp
 refine (HO2.out _).mono ?_
 rintro e5 w5 ⟨rfl, hb5⟩
 have hb5 := ht.trans (hb5.mono ht.size)
 go_wp2_with fail
 refine hK.out _ _ hb5 (fun ht => ?_)
 clear hK K hb5
 try simp only [Act.put, List.setIfInBounds_toArray, List.set_cons_zero, List.set_cons_succ]
 refine wpAnyH_ready (rs := [6]) (by kernel_rfl) (by simp) ?_
 refine AllReadyH.cons (o := ⟨some _, _, _, _, _, _⟩) rfl (fun K hK => ?_) (AllReadyH.nil)
 go_simp
 refine (HM2.out _).mono ?_
 rintro e6 w6 ⟨rfl, hb6⟩
 have hb6 := ht.trans (hb6.mono ht.size)
 go_wp2_with fail
 refine hK.out _ _ hb6 (fun ht => ?_)
 clear hK K hb6
 try simp only [Act.put, List.setIfInBounds_toArray, List.set_cons_zero, List.set_cons_succ]
 refine wpAnyH_take (i := 7) (oi := ⟨some _, _, _, _, _, _⟩) (v := (.int .i64 mn)) rfl (by kernel_rfl) (by kernel_rfl) (by kernel_rfl) (fun _ _ _ h => h) (Or.inl ⟨by rfl, ?_⟩) ht ?_
 ·intro W9 hSw
  go_simp
 try simp only [Act.put, List.setIfInBounds_toArray, List.set_cons_zero, List.set_cons_succ]
 refine wpAnyH_done (by kernel_rfl) ?_ _
 have HW6 := Lib.hid ht
 clear ht HO2 HM2 HW3
 obtain ⟨a0, a1, a2, a3, a4, a5, a6, a7⟩ := (HBK.out _ HW6.out).eight
 have al := (HBK.out _ HW6.out).lt
 obtain ⟨b0, b1, b2, b3, b4, b5, b6, b7⟩ := (HBV.out _ HW6.out).eight
 have bl := (HBV.out _ HW6.out).lt
 go_wp2_with fail
 refine (HM3.out _).mono ?_
 rintro e7 w7 ⟨rfl, hb7⟩
 have HW7 := Lib.hid (HW6.out.trans (hb7.mono HW6.out.size))
 clear hb7 HM3 HW6 a0 a1 a2 a3 a4 a5 a6 a7 al b0 b1 b2 b3 b4 b5 b6 b7 bl
 have HBB := Lib.hid (HB0.out.trans (HW7.out.mono HB0.out.size))
 obtain ⟨a0, a1, a2, a3, a4, a5, a6, a7⟩ := (HBK.out _ HW7.out).eight
 have al := (HBK.out _ HW7.out).lt
 obtain ⟨b0, b1, b2, b3, b4, b5, b6, b7⟩ := (HBV.out _ HW7.out).eight
 have bl := (HBV.out _ HW7.out).lt
 obtain ⟨rfl, h3⟩ := HNM
 change ¬ k = 3 at h3
 ·have e3 : (k == 3) = false := by rw [beq_eq_false_iff_ne]; exact h3
  have HF := Lib.hid (show Ow.fails [116, 121, 112, 101] (.mk k b n s l m) (.mk vk vb vn vs vl vm) = !l.any fun x => Ow.is (.mk vk vb vn vs vl vm) (Sh.strOf x) by show (!(Ow.types (.mk k b n s l m)).any _) = _; unfold Ow.types; rw [if_neg (show ¬ Sh.kindOf (.mk k b n s l m) = 3 from h3)]; rfl)
  have HWS := HW7
  have HSL := Lib.hid (fun (W : World) (h : Below w0.heap.size w0 W) => HLK.out.keep (le_below (HB0.out.trans (h.mono HB0.out.size))))
  go_wp2_with fail
  go_loopw [10, 12] (fun f10 i12 wr => ∃ j : Nat, f10 = .bool (!(l.take j).any fun x => Ow.is (.mk vk vb vn vs vl vm) (Sh.strOf x)) ∧ i12 = .int .i64 j ∧ j ≤ l.length ∧ Below w0.heap.size w0 wr) (fun _ i _ => l.length - (intOf i).toNat)
  case atStart => exact ⟨0, rfl, rfl, Nat.zero_le _, HWS.out⟩
  case round =>
   obtain ⟨j, rfl, rfl, hj, hbr⟩ := hrel
   obtain ⟨wz, hwz⟩ : ∃ W, W = wr := ⟨_, rfl⟩
   subst hwz
   have HBR := Lib.hid hbr
   clear hbr
   by_cases hlt : j < l.length
   ·have hjj : (j : Int) < (l.length : Int) := by omega
    obtain ⟨g, o, y, hA, hy, hcl⟩ := (HSL.out wz HBR.out) j _ (List.getElem?_eq_getElem hlt)
    obtain ⟨x, hx⟩ : ∃ x, l[j]'hlt = x := ⟨_, rfl⟩
    have HNX := Lib.hid (show ((l.take (j + 1)).any fun x => Ow.is (.mk vk vb vn vs vl vm) (Sh.strOf x)) = (((l.take j).any fun x => Ow.is (.mk vk vb vn vs vl vm) (Sh.strOf x)) || Ow.is (.mk vk vb vn vs vl vm) (Sh.strOf x)) by rw [List.take_succ_eq_append_getElem hlt, List.any_append, hx]; simp)
    rw [hx] at hy
    clear hx
    obtain ⟨xk0, xb, xn, xs, xl, xm⟩ := x
    obtain ⟨xA, xe, xB, xd, rfl, _⟩ := In.form hy
    have HXC := Lib.hid (fun (W : World) (h : Below wz.heap.size wz W) => hcl.keep (le_below h))
    have HIS := Lib.hid (fun (W : World) (h : Below w0.heap.size w0 W) => refIs_any (.mk vk vb vn vs vl vm) xs (.agg #[.int .i64 vk, .bool vb, .bool vn.neg, .string ⟨vn.digits.toArray⟩, .int .i64 vn.exp, .string ⟨vs.toArray⟩, .slice Av vl.length ev, .slice Bv vm.length dv]) W hmv2 (In.keep (le_below (HB0.out.trans (h.mono HB0.out.size))) _ _ HXV.out))
    clear hy hcl
    subst hA
    obtain ⟨mt, hmt⟩ : ∃ q, ((l.take j).any fun x => Ow.is (.mk vk vb vn vs vl vm) (Sh.strOf x)) = q := ⟨_, rfl⟩
    obtain ⟨is1, his⟩ : ∃ q, Ow.is (.mk vk vb vn vs vl vm) xs = q := ⟨_, rfl⟩
    rw [hmt] at HNX ⊢
    rw [show Ow.is (.mk vk vb vn vs vl vm) (Sh.strOf (.mk xk0 xb xn xs xl xm)) = is1 from his] at HNX
    rw [his] at HIS
    clear hmt his
    go_upto_region 14 with (fail)
    refine wp_region_held_drew (S := fun W9 => Below wz.heap.size wz W9) (by kernel_rfl) (show Below wz.heap.size wz wz.drew from below_drewN (Below.refl _ _) 1) (fun ht => ?_)
    generalize wz.drew = w8 at *
    refine wpAnyH_take (i := 0) (oi := ⟨some _, _, _, _, _, _⟩) (v := (.agg #[.int .i64 vk, .bool vb, .bool vn.neg, .string ⟨vn.digits.toArray⟩, .int .i64 vn.exp, .string ⟨vs.toArray⟩, .slice Av vl.length ev, .slice Bv vm.length dv])) rfl (by kernel_rfl) (by kernel_rfl) (by kernel_rfl) (fun _ _ _ h => h) (Or.inl ⟨by rfl, ?_⟩) ht ?_
    ·intro W9 hSw
     obtain ⟨b0, b1, b2, b3, b4, b5, b6, b7⟩ := (HBV.out W9 (HBR.out.trans (hSw.mono HBR.out.size))).eight
     have bl := (HBV.out W9 (HBR.out.trans (hSw.mono HBR.out.size))).lt
     go_simp
    try simp only [Act.put, List.setIfInBounds_toArray, List.set_cons_zero, List.set_cons_succ]
    refine wpAnyH_take (i := 1) (oi := ⟨some _, _, _, _, _, _⟩) (v := (.slice (some ⟨g, o, none⟩) l.length e)) rfl (by kernel_rfl) (by kernel_rfl) (by kernel_rfl) (fun _ _ _ h => h) (Or.inl ⟨by rfl, ?_⟩) ht ?_
    ·intro W9 hSw
     go_simp
    try simp only [Act.put, List.setIfInBounds_toArray, List.set_cons_zero, List.set_cons_succ]
    refine wpAnyH_take (i := 2) (oi := ⟨some _, _, _, _, _, _⟩) (v := (.int .i64 j)) rfl (by kernel_rfl) (by kernel_rfl) (by kernel_rfl) (fun _ _ _ h => h) (Or.inl ⟨by rfl, ?_⟩) ht ?_
    ·intro W9 hSw
     go_simp
    try simp only [Act.put, List.setIfInBounds_toArray, List.set_cons_zero, List.set_cons_succ]
    refine wpAnyH_take (i := 3) (oi := ⟨some _, _, _, _, _, _⟩) (v := (.pointer (some ⟨g, o + j * 8, none⟩))) rfl (by kernel_rfl) (by kernel_rfl) (by kernel_rfl) (fun _ _ _ h => h) (Or.inl ⟨by rfl, ?_⟩) ht ?_
    ·intro W9 hSw
     go_simp
    try simp only [Act.put, List.setIfInBounds_toArray, List.set_cons_zero, List.set_cons_succ]
    refine wpAnyH_take (i := 4) (oi := ⟨some _, _, _, _, _, _⟩) (v := (.pointer (some ⟨g, o + j * 8 + 5, none⟩))) rfl (by kernel_rfl) (by kernel_rfl) (by kernel_rfl) (fun _ _ _ h => h) (Or.inl ⟨by rfl, ?_⟩) ht ?_
    ·intro W9 hSw
     go_simp
    try simp only [Act.put, List.setIfInBounds_toArray, List.set_cons_zero, List.set_cons_succ]
    refine wpAnyH_take (i := 5) (oi := ⟨some _, _, _, _, _, _⟩) (v := (.string ⟨xs.toArray⟩)) rfl (by kernel_rfl) (by kernel_rfl) (by kernel_rfl) (fun _ _ _ h => h) (Or.inl ⟨by rfl, ?_⟩) ht ?_
    ·intro W9 hSw
     obtain ⟨c0, c1, c2, c3, c4, c5, c6, c7⟩ := (HXC.out W9 hSw).eight
     have hgl := World.block_lt_of_cell? _ _ c0
     go_simp
    try simp only [Act.put, List.setIfInBounds_toArray, List.set_cons_zero, List.set_cons_succ]
    refine wpAnyH_ready (rs := [6]) (by kernel_rfl) (by simp) ?_
    refine AllReadyH.cons (o := ⟨some _, _, _, _, _, _⟩) rfl (fun K hK => ?_) (AllReadyH.nil)
    go_simp
    refine (HIS.out _ (HBR.out.trans (ht.mono HBR.out.size))).mono ?_
    rintro e9 w9 ⟨rfl, hb9⟩
    have hb9 := ht.trans (hb9.mono ht.size)
    clear ht
    go_wp2_with fail
    refine hK.out _ _ hb9 (fun ht => ?_)
    clear hK K hb9
    try simp only [Act.put, List.setIfInBounds_toArray, List.set_cons_zero, List.set_cons_succ]
    refine wpAnyH_take (i := 7) (oi := ⟨some _, _, _, _, _, _⟩) (v := (.bool is1)) rfl (by kernel_rfl) (by kernel_rfl) (by kernel_rfl) (fun _ _ _ h => h) (Or.inl ⟨by rfl, ?_⟩) ht ?_
    ·intro W9 hSw
     go_simp
    try simp only [Act.put, List.setIfInBounds_toArray, List.set_cons_zero, List.set_cons_succ]
    refine wpAnyH_done (by kernel_rfl) ?_ _
    have HB9 := Lib.hid (HBR.out.trans (ht.mono HBR.out.size))
    clear ht
    cases mt with
    | true =>
     have HNT := Lib.hid HNX.out
     go_wp2_with fail
     go_roundw
     case rel => exact ⟨j + 1, by rw [HNT.out]; rfl, by go_num, by omega, HB9.out⟩
     case measure => simp [intOf]; omega
    | false =>
     cases is1 with
     | true =>
      have HNT := Lib.hid HNX.out
      go_wp2_with fail
      go_roundw
      case rel => exact ⟨j + 1, by rw [HNT.out]; rfl, by go_num, by omega, HB9.out⟩
      case measure => simp [intOf]; omega
     | false =>
      have HNT := Lib.hid HNX.out
      go_wp2_with fail
      go_roundw
      case rel => exact ⟨j + 1, by rw [HNT.out]; rfl, by go_num, by omega, HB9.out⟩
      case measure => simp [intOf]; omega
   ·obtain rfl : j = l.length := by omega
    have HF2 := Lib.hid (show Ow.fails [116, 121, 112, 101] (.mk k b n s l m) (.mk vk vb vn vs vl vm) = !(l.take l.length).any fun x => Ow.is (.mk vk vb vn vs vl vm) (Sh.strOf x) by rw [List.take_length]; exact HF.out)
    rw [← HF2.out]
    go_wp2_with fail
    go_ret
    exact ⟨rfl, HB0.out.trans (HBR.out.mono HB0.out.size)⟩

theorem slL_one14 {w : World} {g : Nat} {t : TypeId} {v : Vl} {c0 c1 c2 c3 c4 c5 c6 c7 : Value} (hb : Blk w g t #[c0, c1, c2, c3, c4, c5, c6, c7]) (hv : v.In w.cell? (.agg #[c0, c1, c2, c3, c4, c5, c6, c7])) : SlL w.cell? (some ⟨g, 0, none⟩) [v] := fun i x hi => by
 have hl := (List.getElem?_eq_some_iff.1 hi).1
 obtain rfl : i = 0 := by simpa using hl
 obtain rfl : v = x := by simpa using hi
 refine ⟨g, 0, _, rfl, hv, fun q z hz => ?_⟩
 rw [show 0 + 0 * 8 + q = q by omega, hb.cell]
 simpa [Value.cells] using hz
set_option linter.unusedVariables false in
set_option linter.unusedSimpArgs false in
set_option maxRecDepth 100000 in
set_option maxHeartbeats 8000000 in
theorem refFails_typeS (nm : List UInt8) (kv v : Vl) (xk xv : Value) (w : World) (hmk : kv.may = true) (hmv : v.may = true) (hsz : v.size ≤ 1000000) (hsl : v.slim 1000000) (hxk : kv.In w.cell? xk) (hxv : v.In w.cell? xv) :
  nm = [116, 121, 112, 101] ∧ Sh.kindOf kv = 3 →
  Calls Tryz.prog 16 #[.string ⟨nm.toArray⟩, xk, xv] w fun e w' => e = .returned (.bool (Ow.fails nm kv v)) ∧ Below w.heap.size w w' := by
 intro HNM
 obtain ⟨k, b, n, s, l, m⟩ := kv
 obtain ⟨vk, vb, vn, vs, vl, vm⟩ := v
 obtain ⟨A, e, B, d, rfl, q1, q2, q3, q4, q5, q6⟩ := In.form hxk
 obtain ⟨Av, ev, Bv, dv, rfl, r1, r2, r3, r4, r5, r6⟩ := In.form hxv
 have HXK := Lib.hid hxk
 have HXV := Lib.hid hxv
 have HLK := Lib.hid (show SlL w.cell? A l from q5)
 have HLV := Lib.hid (show SlL w.cell? Av vl from r5)
 have HQ2 := Lib.hid q2
 have HR2 := Lib.hid r2
 have hsk := (mayNum_May (may_own hmk).2.2.2.2.2.2.2.1).small
 have hsv := (mayNum_May (may_own hmv).2.2.2.2.2.2.2.1).small
 have hvl : vl.length ≤ 1000000 := by
  have h : vl.length ≤ sizeL vl := sizeL_len vl
  simp only [Vl.size] at hsz; omega
 have hvs : vs.length ≤ 1000000 := by simp only [Vl.slim] at hsl; exact hsl.2.1
 unfold maxLen at q2 r2
 have HB0 := Lib.hid (show Below w.heap.size w ((w.alloc (.cells #[.int .i64 k, .bool b, .bool n.neg, .string ⟨n.digits.toArray⟩, .int .i64 n.exp, .string ⟨s.toArray⟩, .slice A l.length e, .slice B m.length d] 31)).alloc (.cells #[.int .i64 vk, .bool vb, .bool vn.neg, .string ⟨vn.digits.toArray⟩, .int .i64 vn.exp, .string ⟨vs.toArray⟩, .slice Av vl.length ev, .slice Bv vm.length dv] 31)) from ((Below.refl _ _).alloc (Nat.le_refl _) _).alloc (by simp) _)
 have HK0 := Lib.hid (show Blk ((w.alloc (.cells #[.int .i64 k, .bool b, .bool n.neg, .string ⟨n.digits.toArray⟩, .int .i64 n.exp, .string ⟨s.toArray⟩, .slice A l.length e, .slice B m.length d] 31)).alloc (.cells #[.int .i64 vk, .bool vb, .bool vn.neg, .string ⟨vn.digits.toArray⟩, .int .i64 vn.exp, .string ⟨vs.toArray⟩, .slice Av vl.length ev, .slice Bv vm.length dv] 31)) w.heap.size 31 #[.int .i64 k, .bool b, .bool n.neg, .string ⟨n.digits.toArray⟩, .int .i64 n.exp, .string ⟨s.toArray⟩, .slice A l.length e, .slice B m.length d] from (Blk.new w 31 _).alloc _)
 have HV0 := Lib.hid (show Blk ((w.alloc (.cells #[.int .i64 k, .bool b, .bool n.neg, .string ⟨n.digits.toArray⟩, .int .i64 n.exp, .string ⟨s.toArray⟩, .slice A l.length e, .slice B m.length d] 31)).alloc (.cells #[.int .i64 vk, .bool vb, .bool vn.neg, .string ⟨vn.digits.toArray⟩, .int .i64 vn.exp, .string ⟨vs.toArray⟩, .slice Av vl.length ev, .slice Bv vm.length dv] 31)) (w.heap.size + 1) 31 #[.int .i64 vk, .bool vb, .bool vn.neg, .string ⟨vn.digits.toArray⟩, .int .i64 vn.exp, .string ⟨vs.toArray⟩, .slice Av vl.length ev, .slice Bv vm.length dv] from Blk.new2 w (.cells #[.int .i64 k, .bool b, .bool n.neg, .string ⟨n.digits.toArray⟩, .int .i64 n.exp, .string ⟨s.toArray⟩, .slice A l.length e, .slice B m.length d] 31) 31 _)
 have hmk2 := hmk
 have hmv2 := hmv
 clear hxk hxv q3 q4 q5 q6 r3 r4 r5 r6 hsz hsl hmk hmv
 go_enter Tryz.func16, Tryz.ntmps16
 go_upto_region 1 with (fail)
 generalize (w.alloc (.cells #[.int .i64 k, .bool b, .bool n.neg, .string ⟨n.digits.toArray⟩, .int .i64 n.exp, .string ⟨s.toArray⟩, .slice A l.length e, .slice B m.length d] 31)).alloc (.cells #[.int .i64 vk, .bool vb, .bool vn.neg, .string ⟨vn.digits.toArray⟩, .int .i64 vn.exp, .string ⟨vs.toArray⟩, .slice Av vl.length ev, .slice Bv vm.length dv] 31) = w0 at *
 have HBK := Lib.hid (fun (W : World) (h : Below w0.heap.size w0 W) => HK0.out.on h)
 have HBV := Lib.hid (fun (W : World) (h : Below w0.heap.size w0 W) => HV0.out.on h)
 have HCH := Lib.hid (fun W => refChars_any ⟨vs.toArray⟩ W (by rw [Lib.size_mk]; omega))
 obtain ⟨ct, hct⟩ : ∃ ct, Ow.chars vs = ct := ⟨_, rfl⟩
 have hctl : ct ≤ 1000000 := by rw [← hct]; exact Nat.le_trans (Ow.chars_le vs) hvs
 obtain ⟨c1, hc1⟩ : ∃ c, Nm.count (ct : Int) = c := ⟨_, rfl⟩
 have hcm1 : Nm.Small c1 := by rw [← hc1]; exact (Nm.countMay14 ct (by omega)).small
 obtain ⟨c2, hc2⟩ : ∃ c, Nm.count (vl.length : Int) = c := ⟨_, rfl⟩
 have hcm2 : Nm.Small c2 := by rw [← hc2]; exact (Nm.countMay14 vl.length (by omega)).small
 have HO1 := Lib.hid (fun W => refOf_any (ct : Int) W (by omega) (by omega))
 have HO2 := Lib.hid (fun W => refOf_any (vl.length : Int) W (by omega) (by omega))
 rw [show (Nm.parse (Lib.itoa (ct : Int))).1 = c1 from hc1] at HO1
 rw [show (Nm.parse (Lib.itoa (vl.length : Int))).1 = c2 from hc2] at HO2
 unfold numV at HO1 HO2
 rw [show (⟨vs.toArray⟩ : ByteArray).data.toList = vs from rfl, hct] at HCH
 have HM1 := Lib.hid (fun W => refCmp_any c1.neg c1.digits c1.exp n.neg n.digits n.exp W hcm1 hsk)
 have HM2 := Lib.hid (fun W => refCmp_any c2.neg c2.digits c2.exp n.neg n.digits n.exp W hcm2 hsk)
 have HM3 := Lib.hid (fun W => refCmp_any vn.neg vn.digits vn.exp n.neg n.digits n.exp W hsv hsk)
 obtain ⟨tx, htx⟩ : ∃ q, Nm.refCmp c1 n = q := ⟨_, rfl⟩
 obtain ⟨mn, hmn⟩ : ∃ q, Nm.refCmp c2 n = q := ⟨_, rfl⟩
 obtain ⟨sz, hsz⟩ : ∃ q, Nm.refCmp vn n = q := ⟨_, rfl⟩
 rw [show Nm.refCmp ⟨c1.neg, c1.digits, c1.exp⟩ ⟨n.neg, n.digits, n.exp⟩ = tx from htx] at HM1
 rw [show Nm.refCmp ⟨c2.neg, c2.digits, c2.exp⟩ ⟨n.neg, n.digits, n.exp⟩ = mn from hmn] at HM2
 rw [show Nm.refCmp ⟨vn.neg, vn.digits, vn.exp⟩ ⟨n.neg, n.digits, n.exp⟩ = sz from hsz] at HM3
 have HTX := Lib.hid (show Nm.refCmp (Nm.count (Ow.chars vs)) n = tx by rw [hct, hc1, htx])
 have HMN := Lib.hid (show Nm.refCmp (Nm.count vl.length) n = mn by rw [hc2, hmn])
 have HSZ := Lib.hid hsz
 clear hct hc1 hc2 hcm1 hcm2 htx hmn hsz hsk hsv
 refine wp_region_held_drew (S := fun W9 => Below w0.heap.size w0 W9) (by kernel_rfl) (show Below w0.heap.size w0 w0.drew from below_drewN (Below.refl _ _) 1) (fun ht => ?_)
 generalize w0.drew = w0d at *
 refine wpAnyH_take (i := 0) (oi := ⟨some _, _, _, _, _, _⟩) (v := (.pointer (some ⟨w.heap.size + 1, 5, none⟩))) rfl (by kernel_rfl) (by kernel_rfl) (by kernel_rfl) (fun _ _ _ h => h) (Or.inl ⟨by rfl, ?_⟩) ht ?_
 ·intro W9 hSw
  go_simp
 try simp only [Act.put, List.setIfInBounds_toArray, List.set_cons_zero, List.set_cons_succ]
 refine wpAnyH_take (i := 1) (oi := ⟨some _, _, _, _, _, _⟩) (v := (.string ⟨vs.toArray⟩)) rfl (by kernel_rfl) (by kernel_rfl) (by kernel_rfl) (fun _ _ _ h => h) (Or.inl ⟨by rfl, ?_⟩) ht ?_
 ·intro W9 hSw
  obtain ⟨b0, b1, b2, b3, b4, b5, b6, b7⟩ := (HBV.out W9 hSw).eight
  have bl := (HBV.out W9 hSw).lt
  go_simp
 try simp only [Act.put, List.setIfInBounds_toArray, List.set_cons_zero, List.set_cons_succ]
 refine wpAnyH_take (i := 4) (oi := ⟨some _, _, _, _, _, _⟩) (v := (.pointer (some ⟨w.heap.size, 2, none⟩))) rfl (by kernel_rfl) (by kernel_rfl) (by kernel_rfl) (fun _ _ _ h => h) (Or.inl ⟨by rfl, ?_⟩) ht ?_
 ·intro W9 hSw
  go_simp
 try simp only [Act.put, List.setIfInBounds_toArray, List.set_cons_zero, List.set_cons_succ]
 refine wpAnyH_take (i := 5) (oi := ⟨some _, _, _, _, _, _⟩) (v := (.agg #[.bool n.neg, .string ⟨n.digits.toArray⟩, .int .i64 n.exp])) rfl (by kernel_rfl) (by kernel_rfl) (by kernel_rfl) (fun _ _ _ h => h) (Or.inl ⟨by rfl, ?_⟩) ht ?_
 ·intro W9 hSw
  obtain ⟨a0, a1, a2, a3, a4, a5, a6, a7⟩ := (HBK.out W9 hSw).eight
  have al := (HBK.out W9 hSw).lt
  go_simp
 try simp only [Act.put, List.setIfInBounds_toArray, List.set_cons_zero, List.set_cons_succ]
 refine wpAnyH_ready (rs := [2]) (by kernel_rfl) (by simp) ?_
 refine AllReadyH.cons (o := ⟨some _, _, _, _, _, _⟩) rfl (fun K hK => ?_) (AllReadyH.nil)
 go_simp
 refine (HCH.out _).mono ?_
 rintro e1 w1 ⟨rfl, rfl⟩
 go_wp2_with fail
 refine hK.out _ _ ht (fun ht => ?_)
 clear hK K
 try simp only [Act.put, List.setIfInBounds_toArray, List.set_cons_zero, List.set_cons_succ]
 refine wpAnyH_ready (rs := [3]) (by kernel_rfl) (by simp) ?_
 refine AllReadyH.cons (o := ⟨some _, _, _, _, _, _⟩) rfl (fun K hK => ?_) (AllReadyH.nil)
 go_simp
 refine (HO1.out _).mono ?_
 rintro e2 w2 ⟨rfl, hb2⟩
 have hb2 := ht.trans (hb2.mono ht.size)
 go_wp2_with fail
 refine hK.out _ _ hb2 (fun ht => ?_)
 clear hK K hb2
 try simp only [Act.put, List.setIfInBounds_toArray, List.set_cons_zero, List.set_cons_succ]
 refine wpAnyH_ready (rs := [6]) (by kernel_rfl) (by simp) ?_
 refine AllReadyH.cons (o := ⟨some _, _, _, _, _, _⟩) rfl (fun K hK => ?_) (AllReadyH.nil)
 go_simp
 refine (HM1.out _).mono ?_
 rintro e3 w3 ⟨rfl, hb3⟩
 have hb3 := ht.trans (hb3.mono ht.size)
 go_wp2_with fail
 refine hK.out _ _ hb3 (fun ht => ?_)
 clear hK K hb3
 try simp only [Act.put, List.setIfInBounds_toArray, List.set_cons_zero, List.set_cons_succ]
 refine wpAnyH_take (i := 7) (oi := ⟨some _, _, _, _, _, _⟩) (v := (.int .i64 tx)) rfl (by kernel_rfl) (by kernel_rfl) (by kernel_rfl) (fun _ _ _ h => h) (Or.inl ⟨by rfl, ?_⟩) ht ?_
 ·intro W9 hSw
  go_simp
 try simp only [Act.put, List.setIfInBounds_toArray, List.set_cons_zero, List.set_cons_succ]
 refine wpAnyH_done (by kernel_rfl) ?_ _
 have HW3 := Lib.hid ht
 clear ht HCH HO1 HM1
 go_upto_region 2 with (fail)
 refine wp_region_held_drew (S := fun W9 => Below w0.heap.size w0 W9) (by kernel_rfl) (show Below w0.heap.size w0 w3.drew from below_drewN HW3.out 1) (fun ht => ?_)
 generalize w3.drew = w4 at *
 refine wpAnyH_take (i := 0) (oi := ⟨some _, _, _, _, _, _⟩) (v := (.pointer (some ⟨w.heap.size + 1, 6, none⟩))) rfl (by kernel_rfl) (by kernel_rfl) (by kernel_rfl) (fun _ _ _ h => h) (Or.inl ⟨by rfl, ?_⟩) ht ?_
 ·intro W9 hSw
  go_simp
 try simp only [Act.put, List.setIfInBounds_toArray, List.set_cons_zero, List.set_cons_succ]
 refine wpAnyH_take (i := 1) (oi := ⟨some _, _, _, _, _, _⟩) (v := (.slice Av vl.length ev)) rfl (by kernel_rfl) (by kernel_rfl) (by kernel_rfl) (fun _ _ _ h => h) (Or.inl ⟨by rfl, ?_⟩) ht ?_
 ·intro W9 hSw
  obtain ⟨b0, b1, b2, b3, b4, b5, b6, b7⟩ := (HBV.out W9 hSw).eight
  have bl := (HBV.out W9 hSw).lt
  go_simp
 try simp only [Act.put, List.setIfInBounds_toArray, List.set_cons_zero, List.set_cons_succ]
 refine wpAnyH_take (i := 2) (oi := ⟨some _, _, _, _, _, _⟩) (v := (.int .i64 vl.length)) rfl (by kernel_rfl) (by kernel_rfl) (by kernel_rfl) (fun _ _ _ h => h) (Or.inl ⟨by rfl, ?_⟩) ht ?_
 ·intro W9 hSw
  go_simp
 try simp only [Act.put, List.setIfInBounds_toArray, List.set_cons_zero, List.set_cons_succ]
 refine wpAnyH_take (i := 4) (oi := ⟨some _, _, _, _, _, _⟩) (v := (.pointer (some ⟨w.heap.size, 2, none⟩))) rfl (by kernel_rfl) (by kernel_rfl) (by kernel_rfl) (fun _ _ _ h => h) (Or.inl ⟨by rfl, ?_⟩) ht ?_
 ·intro W9 hSw
  go_simp
 try simp only [Act.put, List.setIfInBounds_toArray, List.set_cons_zero, List.set_cons_succ]
 refine wpAnyH_take (i := 5) (oi := ⟨some _, _, _, _, _, _⟩) (v := (.agg #[.bool n.neg, .string ⟨n.digits.toArray⟩, .int .i64 n.exp])) rfl (by kernel_rfl) (by kernel_rfl) (by kernel_rfl) (fun _ _ _ h => h) (Or.inl ⟨by rfl, ?_⟩) ht ?_
 ·intro W9 hSw
  obtain ⟨a0, a1, a2, a3, a4, a5, a6, a7⟩ := (HBK.out W9 hSw).eight
  have al := (HBK.out W9 hSw).lt
  go_simp
 try simp only [Act.put, List.setIfInBounds_toArray, List.set_cons_zero, List.set_cons_succ]
 refine wpAnyH_ready (rs := [3]) (by kernel_rfl) (by simp) ?_
 refine AllReadyH.cons (o := ⟨some _, _, _, _, _, _⟩) rfl (fun K hK => ?_) (AllReadyH.nil)
 go_simp
 refine (HO2.out _).mono ?_
 rintro e5 w5 ⟨rfl, hb5⟩
 have hb5 := ht.trans (hb5.mono ht.size)
 go_wp2_with fail
 refine hK.out _ _ hb5 (fun ht => ?_)
 clear hK K hb5
 try simp only [Act.put, List.setIfInBounds_toArray, List.set_cons_zero, List.set_cons_succ]
 refine wpAnyH_ready (rs := [6]) (by kernel_rfl) (by simp) ?_
 refine AllReadyH.cons (o := ⟨some _, _, _, _, _, _⟩) rfl (fun K hK => ?_) (AllReadyH.nil)
 go_simp
 refine (HM2.out _).mono ?_
 rintro e6 w6 ⟨rfl, hb6⟩
 have hb6 := ht.trans (hb6.mono ht.size)
 go_wp2_with fail
 refine hK.out _ _ hb6 (fun ht => ?_)
 clear hK K hb6
 try simp only [Act.put, List.setIfInBounds_toArray, List.set_cons_zero, List.set_cons_succ]
 refine wpAnyH_take (i := 7) (oi := ⟨some _, _, _, _, _, _⟩) (v := (.int .i64 mn)) rfl (by kernel_rfl) (by kernel_rfl) (by kernel_rfl) (fun _ _ _ h => h) (Or.inl ⟨by rfl, ?_⟩) ht ?_
 ·intro W9 hSw
  go_simp
 try simp only [Act.put, List.setIfInBounds_toArray, List.set_cons_zero, List.set_cons_succ]
 refine wpAnyH_done (by kernel_rfl) ?_ _
 have HW6 := Lib.hid ht
 clear ht HO2 HM2 HW3
 obtain ⟨a0, a1, a2, a3, a4, a5, a6, a7⟩ := (HBK.out _ HW6.out).eight
 have al := (HBK.out _ HW6.out).lt
 obtain ⟨b0, b1, b2, b3, b4, b5, b6, b7⟩ := (HBV.out _ HW6.out).eight
 have bl := (HBV.out _ HW6.out).lt
 go_wp2_with fail
 refine (HM3.out _).mono ?_
 rintro e7 w7 ⟨rfl, hb7⟩
 have HW7 := Lib.hid (HW6.out.trans (hb7.mono HW6.out.size))
 clear hb7 HM3 HW6 a0 a1 a2 a3 a4 a5 a6 a7 al b0 b1 b2 b3 b4 b5 b6 b7 bl
 have HBB := Lib.hid (HB0.out.trans (HW7.out.mono HB0.out.size))
 obtain ⟨a0, a1, a2, a3, a4, a5, a6, a7⟩ := (HBK.out _ HW7.out).eight
 have al := (HBK.out _ HW7.out).lt
 obtain ⟨b0, b1, b2, b3, b4, b5, b6, b7⟩ := (HBV.out _ HW7.out).eight
 have bl := (HBV.out _ HW7.out).lt
 obtain ⟨rfl, h3⟩ := HNM
 change k = 3 at h3
 subst h3
 have HF := Lib.hid (show Ow.fails [116, 121, 112, 101] (.mk 3 b n s l m) (.mk vk vb vn vs vl vm) = !([Vl.mk 3 b n s l m].any fun x => Ow.is (.mk vk vb vn vs vl vm) (Sh.strOf x)) from rfl)
 go_upto_region 11 with (fail)
 have hal := (Below.refl w7.heap.size w7).alloc (Nat.le_refl _) (.cells #[.int .i64 3, .bool b, .bool n.neg, .string ⟨n.digits.toArray⟩, .int .i64 n.exp, .string ⟨s.toArray⟩, .slice A l.length e, .slice B m.length d] 31)
 have HW8 := Lib.hid (HW7.out.trans (hal.mono HW7.out.size))
 have HSB := Lib.hid (Blk.new w7 31 #[.int .i64 3, .bool b, .bool n.neg, .string ⟨n.digits.toArray⟩, .int .i64 n.exp, .string ⟨s.toArray⟩, .slice A l.length e, .slice B m.length d])
 clear hal a0 a1 a2 a3 a4 a5 a6 a7 al b0 b1 b2 b3 b4 b5 b6 b7 bl
 generalize w7.alloc (.cells #[.int .i64 3, .bool b, .bool n.neg, .string ⟨n.digits.toArray⟩, .int .i64 n.exp, .string ⟨s.toArray⟩, .slice A l.length e, .slice B m.length d] 31) = wS at *
 generalize w7.heap.size = gS at *
 have HB0n := Lib.hid (HB0.out.trans (HW8.out.mono HB0.out.size))
 have HBVn := Lib.hid (fun (W : World) (h : Below wS.heap.size wS W) => HBV.out W (HW8.out.trans (h.mono HW8.out.size)))
 have HSL := Lib.hid (fun (W : World) (h : Below wS.heap.size wS W) => slL_one14 (HSB.out.on h) (In.keep (le_below (HB0n.out.trans (h.mono HB0n.out.size))) _ _ HXK.out))
 clear HB0 HBV HBK HW7 HW8 HBB HK0 HV0 HSB
 have HB0 := HB0n
 have HBV := HBVn
 clear HB0n HBVn
 have HWS := Lib.hid (Below.refl wS.heap.size wS)
 obtain ⟨LL, hLL⟩ : ∃ L, L = [Vl.mk 3 b n s l m] := ⟨_, rfl⟩
 have HNL := Lib.hid (show LL.length = 1 by rw [hLL]; rfl)
 rw [← hLL] at HSL HF
 clear hLL
 obtain ⟨A7, hA7⟩ : ∃ A, A = (some (⟨gS, 0, none⟩ : Addr)) := ⟨_, rfl⟩
 rw [← hA7] at HSL ⊢
 clear hA7
 go_wp2_with fail
 go_loopw [10, 12] (fun f10 i12 wr => ∃ j : Nat, f10 = .bool (!(LL.take j).any fun x => Ow.is (.mk vk vb vn vs vl vm) (Sh.strOf x)) ∧ i12 = .int .i64 j ∧ j ≤ 1 ∧ Below wS.heap.size wS wr) (fun _ i _ => 1 - (intOf i).toNat)
 case atStart => exact ⟨0, rfl, rfl, Nat.zero_le _, HWS.out⟩
 case round =>
  obtain ⟨j, rfl, rfl, hj, hbr⟩ := hrel
  obtain ⟨wz, hwz⟩ : ∃ W, W = wr := ⟨_, rfl⟩
  subst hwz
  have HBR := Lib.hid hbr
  clear hbr
  by_cases hlt1 : j < 1
  ·have hlt : j < LL.length := by have := HNL.out; omega
   have hjj : (j : Int) < (1 : Int) := by omega
   obtain ⟨g, o, y, hA, hy, hcl⟩ := (HSL.out wz HBR.out) j _ (List.getElem?_eq_getElem hlt)
   obtain ⟨x, hx⟩ : ∃ x, LL[j]'hlt = x := ⟨_, rfl⟩
   have HNX := Lib.hid (show ((LL.take (j + 1)).any fun x => Ow.is (.mk vk vb vn vs vl vm) (Sh.strOf x)) = (((LL.take j).any fun x => Ow.is (.mk vk vb vn vs vl vm) (Sh.strOf x)) || Ow.is (.mk vk vb vn vs vl vm) (Sh.strOf x)) by rw [List.take_succ_eq_append_getElem hlt, List.any_append, hx]; simp)
   rw [hx] at hy
   clear hx
   obtain ⟨xk0, xb, xn, xs, xl, xm⟩ := x
   obtain ⟨xA, xe, xB, xd, rfl, _⟩ := In.form hy
   have HXC := Lib.hid (fun (W : World) (h : Below wz.heap.size wz W) => hcl.keep (le_below h))
   have HIS := Lib.hid (fun (W : World) (h : Below wS.heap.size wS W) => refIs_any (.mk vk vb vn vs vl vm) xs (.agg #[.int .i64 vk, .bool vb, .bool vn.neg, .string ⟨vn.digits.toArray⟩, .int .i64 vn.exp, .string ⟨vs.toArray⟩, .slice Av vl.length ev, .slice Bv vm.length dv]) W hmv2 (In.keep (le_below (HB0.out.trans (h.mono HB0.out.size))) _ _ HXV.out))
   clear hy hcl
   subst hA
   obtain ⟨mt, hmt⟩ : ∃ q, ((LL.take j).any fun x => Ow.is (.mk vk vb vn vs vl vm) (Sh.strOf x)) = q := ⟨_, rfl⟩
   obtain ⟨is1, his⟩ : ∃ q, Ow.is (.mk vk vb vn vs vl vm) xs = q := ⟨_, rfl⟩
   rw [hmt] at HNX ⊢
   rw [show Ow.is (.mk vk vb vn vs vl vm) (Sh.strOf (.mk xk0 xb xn xs xl xm)) = is1 from his] at HNX
   rw [his] at HIS
   clear hmt his
   go_upto_region 14 with (fail)
   refine wp_region_held_drew (S := fun W9 => Below wz.heap.size wz W9) (by kernel_rfl) (show Below wz.heap.size wz wz.drew from below_drewN (Below.refl _ _) 1) (fun ht => ?_)
   generalize wz.drew = w8 at *
   refine wpAnyH_take (i := 0) (oi := ⟨some _, _, _, _, _, _⟩) (v := (.agg #[.int .i64 vk, .bool vb, .bool vn.neg, .string ⟨vn.digits.toArray⟩, .int .i64 vn.exp, .string ⟨vs.toArray⟩, .slice Av vl.length ev, .slice Bv vm.length dv])) rfl (by kernel_rfl) (by kernel_rfl) (by kernel_rfl) (fun _ _ _ h => h) (Or.inl ⟨by rfl, ?_⟩) ht ?_
   ·intro W9 hSw
    obtain ⟨b0, b1, b2, b3, b4, b5, b6, b7⟩ := (HBV.out W9 (HBR.out.trans (hSw.mono HBR.out.size))).eight
    have bl := (HBV.out W9 (HBR.out.trans (hSw.mono HBR.out.size))).lt
    go_simp
   try simp only [Act.put, List.setIfInBounds_toArray, List.set_cons_zero, List.set_cons_succ]
   refine wpAnyH_take (i := 1) (oi := ⟨some _, _, _, _, _, _⟩) (v := (.slice (some ⟨g, o, none⟩) 1 1)) rfl (by kernel_rfl) (by kernel_rfl) (by kernel_rfl) (fun _ _ _ h => h) (Or.inl ⟨by rfl, ?_⟩) ht ?_
   ·intro W9 hSw
    go_simp
   try simp only [Act.put, List.setIfInBounds_toArray, List.set_cons_zero, List.set_cons_succ]
   refine wpAnyH_take (i := 2) (oi := ⟨some _, _, _, _, _, _⟩) (v := (.int .i64 j)) rfl (by kernel_rfl) (by kernel_rfl) (by kernel_rfl) (fun _ _ _ h => h) (Or.inl ⟨by rfl, ?_⟩) ht ?_
   ·intro W9 hSw
    go_simp
   try simp only [Act.put, List.setIfInBounds_toArray, List.set_cons_zero, List.set_cons_succ]
   refine wpAnyH_take (i := 3) (oi := ⟨some _, _, _, _, _, _⟩) (v := (.pointer (some ⟨g, o + j * 8, none⟩))) rfl (by kernel_rfl) (by kernel_rfl) (by kernel_rfl) (fun _ _ _ h => h) (Or.inl ⟨by rfl, ?_⟩) ht ?_
   ·intro W9 hSw
    go_simp
   try simp only [Act.put, List.setIfInBounds_toArray, List.set_cons_zero, List.set_cons_succ]
   refine wpAnyH_take (i := 4) (oi := ⟨some _, _, _, _, _, _⟩) (v := (.pointer (some ⟨g, o + j * 8 + 5, none⟩))) rfl (by kernel_rfl) (by kernel_rfl) (by kernel_rfl) (fun _ _ _ h => h) (Or.inl ⟨by rfl, ?_⟩) ht ?_
   ·intro W9 hSw
    go_simp
   try simp only [Act.put, List.setIfInBounds_toArray, List.set_cons_zero, List.set_cons_succ]
   refine wpAnyH_take (i := 5) (oi := ⟨some _, _, _, _, _, _⟩) (v := (.string ⟨xs.toArray⟩)) rfl (by kernel_rfl) (by kernel_rfl) (by kernel_rfl) (fun _ _ _ h => h) (Or.inl ⟨by rfl, ?_⟩) ht ?_
   ·intro W9 hSw
    obtain ⟨c0, c1, c2, c3, c4, c5, c6, c7⟩ := (HXC.out W9 hSw).eight
    have hgl := World.block_lt_of_cell? _ _ c0
    go_simp
   try simp only [Act.put, List.setIfInBounds_toArray, List.set_cons_zero, List.set_cons_succ]
   refine wpAnyH_ready (rs := [6]) (by kernel_rfl) (by simp) ?_
   refine AllReadyH.cons (o := ⟨some _, _, _, _, _, _⟩) rfl (fun K hK => ?_) (AllReadyH.nil)
   go_simp
   refine (HIS.out _ (HBR.out.trans (ht.mono HBR.out.size))).mono ?_
   rintro e9 w9 ⟨rfl, hb9⟩
   have hb9 := ht.trans (hb9.mono ht.size)
   clear ht
   go_wp2_with fail
   refine hK.out _ _ hb9 (fun ht => ?_)
   clear hK K hb9
   try simp only [Act.put, List.setIfInBounds_toArray, List.set_cons_zero, List.set_cons_succ]
   refine wpAnyH_take (i := 7) (oi := ⟨some _, _, _, _, _, _⟩) (v := (.bool is1)) rfl (by kernel_rfl) (by kernel_rfl) (by kernel_rfl) (fun _ _ _ h => h) (Or.inl ⟨by rfl, ?_⟩) ht ?_
   ·intro W9 hSw
    go_simp
   try simp only [Act.put, List.setIfInBounds_toArray, List.set_cons_zero, List.set_cons_succ]
   refine wpAnyH_done (by kernel_rfl) ?_ _
   have HB9 := Lib.hid (HBR.out.trans (ht.mono HBR.out.size))
   clear ht
   cases mt with
   | true =>
    have HNT := Lib.hid HNX.out
    go_wp2_with fail
    go_roundw
    case rel => exact ⟨j + 1, by rw [HNT.out]; rfl, by go_num, by omega, HB9.out⟩
    case measure => simp [intOf]; omega
   | false =>
    cases is1 with
    | true =>
     have HNT := Lib.hid HNX.out
     go_wp2_with fail
     go_roundw
     case rel => exact ⟨j + 1, by rw [HNT.out]; rfl, by go_num, by omega, HB9.out⟩
     case measure => simp [intOf]; omega
    | false =>
     have HNT := Lib.hid HNX.out
     go_wp2_with fail
     go_roundw
     case rel => exact ⟨j + 1, by rw [HNT.out]; rfl, by go_num, by omega, HB9.out⟩
     case measure => simp [intOf]; omega
  ·obtain rfl : j = 1 := by omega
   have HF2 := Lib.hid (show Ow.fails [116, 121, 112, 101] (.mk 3 b n s l m) (.mk vk vb vn vs vl vm) = !(LL.take 1).any fun x => Ow.is (.mk vk vb vn vs vl vm) (Sh.strOf x) by rw [List.take_of_length_le (by have := HNL.out; omega)]; exact HF.out)
   rw [← HF2.out]
   go_wp2_with fail
   go_ret
   exact ⟨rfl, HB0.out.trans (HBR.out.mono HB0.out.size)⟩

end Go.Proofs.YtolkfgikomminaaGreatDoor

