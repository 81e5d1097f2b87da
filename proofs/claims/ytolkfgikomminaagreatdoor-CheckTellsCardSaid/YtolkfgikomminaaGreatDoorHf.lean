/- The document's Fails of layer 14 (check): uniqueItems. (By gen_hf.py.) -/
import Derived.Test.YtolkfgikomminaaGreatDoorHe
namespace Go.Proofs.YtolkfgikomminaaGreatDoor
open Go.RowKit Js

theorem Ow.dup_snoc {x : Vl} : ∀ {a seen : List Vl}, Ow.dup seen (a ++ [x]) = (Ow.dup seen a || Ow.among (seen ++ a) x)
 | [], seen => by simp [Ow.dup]
 | y :: r, seen => by
  rw [List.cons_append, Ow.dup, Ow.dup, Ow.dup_snoc (a := r), Bool.or_assoc, List.append_assoc]
  rfl
theorem slL_take14 {c : Cl} {A : Option Addr} {l : List Vl} (h : SlL c A l) (j : Nat) : SlL c A (l.take j) := fun i v hi => by
 refine h i v ?_
 rw [List.getElem?_take] at hi
 split at hi
 ·exact hi
 ·cases hi
theorem infoV14 : ∃ i, Tryz.prog.info? 31 = some i ∧ i.zero = some (.agg #[.int .i64 0, .bool false, .bool false, .string ⟨#[]⟩, .int .i64 0, .string ⟨#[]⟩, .slice none 0 0, .slice none 0 0]) ∧ i.size = 8 ∧ i.bytes = 112 := by
 have h : (Tryz.prog.info? 31).map (fun i => (i.zero, i.size, i.bytes)) = some (some (.agg #[.int .i64 0, .bool false, .bool false, .string ⟨#[]⟩, .int .i64 0, .string ⟨#[]⟩, .slice none 0 0, .slice none 0 0]), 8, 112) := by kernel_rfl
 cases hq : Tryz.prog.info? 31 with
 | none => rw [hq] at h; cases h
 | some i =>
  rw [hq] at h
  simp only [Option.map_some, Option.some.injEq, Prod.mk.injEq] at h
  exact ⟨i, rfl, h.1, h.2.1, h.2.2⟩
set_option linter.unusedVariables false in
set_option linter.unusedSimpArgs false in
set_option maxRecDepth 100000 in
set_option maxHeartbeats 8000000 in
theorem refFails_uniq (nm : List UInt8) (kv v : Vl) (xk xv : Value) (w : World) (hmk : kv.may = true) (hmv : v.may = true) (hsz : v.size ≤ 1000000) (hsl : v.slim 1000000) (hxk : kv.In w.cell? xk) (hxv : v.In w.cell? xv) :
  nm = [117, 110, 105, 113, 117, 101, 73, 116, 101, 109, 115] →
  Calls Tryz.prog 16 #[.string ⟨nm.toArray⟩, xk, xv] w fun e w' => e = .returned (.bool (Ow.fails nm kv v)) ∧ Below w.heap.size w w' := by
 intro HNM
 obtain ⟨k, b, n, s, l, m⟩ := kv
 obtain ⟨vk, vb, vn, vs, vl, vm⟩ := v
 obtain ⟨A, e, B, d, rfl, q1, q2, q3, q4, q5, q6⟩ := In.form hxk
 obtain ⟨Av, ev, Bv, dv, rfl, r1, r2, r3, r4, r5, r6⟩ := In.form hxv
 have HXK := Lib.hid hxk
 have HXV := Lib.hid hxv
 have HLK := Lib.hid (show SlL w.cell? A l from q5)
 have HLV := Lib.hid (show SlL w.cell? Av vl from r5)
 have HQ2 := Lib.hid q2
 have HR2 := Lib.hid r2
 have hsk := (mayNum_May (may_own hmk).2.2.2.2.2.2.2.1).small
 have hsv := (mayNum_May (may_own hmv).2.2.2.2.2.2.2.1).small
 have hvl : vl.length ≤ 1000000 := by
  have h : vl.length ≤ sizeL vl := sizeL_len vl
  simp only [Vl.size] at hsz; omega
 have hvs : vs.length ≤ 1000000 := by simp only [Vl.slim] at hsl; exact hsl.2.1
 unfold maxLen at q2 r2
 have HB0 := Lib.hid (show Below w.heap.size w ((w.alloc (.cells #[.int .i64 k, .bool b, .bool n.neg, .string ⟨n.digits.toArray⟩, .int .i64 n.exp, .string ⟨s.toArray⟩, .slice A l.length e, .slice B m.length d] 31)).alloc (.cells #[.int .i64 vk, .bool vb, .bool vn.neg, .string ⟨vn.digits.toArray⟩, .int .i64 vn.exp, .string ⟨vs.toArray⟩, .slice Av vl.length ev, .slice Bv vm.length dv] 31)) from ((Below.refl _ _).alloc (Nat.le_refl _) _).alloc (by simp) _)
 have HK0 := Lib.hid (show Blk ((w.alloc (.cells #[.int .i64 k, .bool b, .bool n.neg, .string ⟨n.digits.toArray⟩, .int .i64 n.exp, .string ⟨s.toArray⟩, .slice A l.length e, .slice B m.length d] 31)).alloc (.cells #[.int .i64 vk, .bool vb, .bool vn.neg, .string ⟨vn.digits.toArray⟩, .int .i64 vn.exp, .string ⟨vs.toArray⟩, .slice Av vl.length ev, .slice Bv vm.length dv] 31)) w.heap.size 31 #[.int .i64 k, .bool b, .bool n.neg, .string ⟨n.digits.toArray⟩, .int .i64 n.exp, .string ⟨s.toArray⟩, .slice A l.length e, .slice B m.length d] from (Blk.new w 31 _).alloc _)
 have HV0 := Lib.hid (show Blk ((w.alloc (.cells #[.int .i64 k, .bool b, .bool n.neg, .string ⟨n.digits.toArray⟩, .int .i64 n.exp, .string ⟨s.toArray⟩, .slice A l.length e, .slice B m.length d] 31)).alloc (.cells #[.int .i64 vk, .bool vb, .bool vn.neg, .string ⟨vn.digits.toArray⟩, .int .i64 vn.exp, .string ⟨vs.toArray⟩, .slice Av vl.length ev, .slice Bv vm.length dv] 31)) (w.heap.size + 1) 31 #[.int .i64 vk, .bool vb, .bool vn.neg, .string ⟨vn.digits.toArray⟩, .int .i64 vn.exp, .string ⟨vs.toArray⟩, .slice Av vl.length ev, .slice Bv vm.length dv] from Blk.new2 w (.cells #[.int .i64 k, .bool b, .bool n.neg, .string ⟨n.digits.toArray⟩, .int .i64 n.exp, .string ⟨s.toArray⟩, .slice A l.length e, .slice B m.length d] 31) 31 _)
 have hmk2 := hmk
 have hmv2 := hmv
 clear hxk hxv q3 q4 q5 q6 r3 r4 r5 r6 hsz hsl hmk hmv
 go_enter Tryz.func16, Tryz.ntmps16
 go_upto_region 1 with (fail)
 generalize (w.alloc (.cells #[.int .i64 k, .bool b, .bool n.neg, .string ⟨n.digits.toArray⟩, .int .i64 n.exp, .string ⟨s.toArray⟩, .slice A l.length e, .slice B m.length d] 31)).alloc (.cells #[.int .i64 vk, .bool vb, .bool vn.neg, .string ⟨vn.digits.toArray⟩, .int .i64 vn.exp, .string ⟨vs.toArray⟩, .slice Av vl.length ev, .slice Bv vm.length dv] 31) = w0 at *
 have HBK := Lib.hid (fun (W : World) (h : Below w0.heap.size w0 W) => HK0.out.on h)
 have HBV := Lib.hid (fun (W : World) (h : Below w0.heap.size w0 W) => HV0.out.on h)
 have HCH := Lib.hid (fun W => refChars_any ⟨vs.toArray⟩ W (by rw [Lib.size_mk]; omega))
 obtain ⟨ct, hct⟩ : ∃ ct, Ow.chars vs = ct := ⟨_, rfl⟩
 have hctl : ct ≤ 1000000 := by rw [← hct]; exact Nat.le_trans (Ow.chars_le vs) hvs
 obtain ⟨c1, hc1⟩ : ∃ c, Nm.count (ct : Int) = c := ⟨_, rfl⟩
 have hcm1 : Nm.Small c1 := by rw [← hc1]; exact (Nm.countMay14 ct (by omega)).small
 obtain ⟨c2, hc2⟩ : ∃ c, Nm.count (vl.length : Int) = c := ⟨_, rfl⟩
 have hcm2 : Nm.Small c2 := by rw [← hc2]; exact (Nm.countMay14 vl.length (by omega)).small
 have HO1 := Lib.hid (fun W => refOf_any (ct : Int) W (by omega) (by omega))
 have HO2 := Lib.hid (fun W => refOf_any (vl.length : Int) W (by omega) (by omega))
 rw [show (Nm.parse (Lib.itoa (ct : Int))).1 = c1 from hc1] at HO1
 rw [show (Nm.parse (Lib.itoa (vl.length : Int))).1 = c2 from hc2] at HO2
 unfold numV at HO1 HO2
 rw [show (⟨vs.toArray⟩ : ByteArray).data.toList = vs from rfl, hct] at HCH
 have HM1 := Lib.hid (fun W => refCmp_any c1.neg c1.digits c1.exp n.neg n.digits n.exp W hcm1 hsk)
 have HM2 := Lib.hid (fun W => refCmp_any c2.neg c2.digits c2.exp n.neg n.digits n.exp W hcm2 hsk)
 have HM3 := Lib.hid (fun W => refCmp_any vn.neg vn.digits vn.exp n.neg n.digits n.exp W hsv hsk)
 obtain ⟨tx, htx⟩ : ∃ q, Nm.refCmp c1 n = q := ⟨_, rfl⟩
 obtain ⟨mn, hmn⟩ : ∃ q, Nm.refCmp c2 n = q := ⟨_, rfl⟩
 obtain ⟨sz, hsz⟩ : ∃ q, Nm.refCmp vn n = q := ⟨_, rfl⟩
 rw [show Nm.refCmp ⟨c1.neg, c1.digits, c1.exp⟩ ⟨n.neg, n.digits, n.exp⟩ = tx from htx] at HM1
 rw [show Nm.refCmp ⟨c2.neg, c2.digits, c2.exp⟩ ⟨n.neg, n.digits, n.exp⟩ = mn from hmn] at HM2
 rw [show Nm.refCmp ⟨vn.neg, vn.digits, vn.exp⟩ ⟨n.neg, n.digits, n.exp⟩ = sz from hsz] at HM3
 have HTX := Lib.hid (show Nm.refCmp (Nm.count (Ow.chars vs)) n = tx by rw [hct, hc1, htx])
 have HMN := Lib.hid (show Nm.refCmp (Nm.count vl.length) n = mn by rw [hc2, hmn])
 have HSZ := Lib.hid hsz
 clear hct hc1 hc2 hcm1 hcm2 htx hmn hsz hsk hsv
 refine wp_region_held_drew (S := fun W9 => Below w0.heap.size w0 W9) (by kernel_rfl) (show Below w0.heap.size w0 w0.drew from below_drewN (Below.refl _ _) 1) (fun ht => ?_)
 generalize w0.drew = w0d at *
 refine wpAnyH_take (i := 0) (oi := ⟨some _, _, _, _, _, _⟩) (v := (.pointer (some ⟨w.heap.size + 1, 5, none⟩))) rfl (by kernel_rfl) (by kernel_rfl) (by kernel_rfl) (fun _ _ _ h => h) (Or.inl ⟨by rfl, ?_⟩) ht ?_
 ·intro W9 hSw
  go_simp
 try simp only [Act.put, List.setIfInBounds_toArray, List.set_cons_zero, List.set_cons_succ]
 refine wpAnyH_take (i := 1) (oi := ⟨some _, _, _, _, _, _⟩) (v := (.string ⟨vs.toArray⟩)) rfl (by kernel_rfl) (by kernel_rfl) (by kernel_rfl) (fun _ _ _ h => h) (Or.inl ⟨by rfl, ?_⟩) ht ?_
 ·intro W9 hSw
  obtain ⟨b0, b1, b2, b3, b4, b5, b6, b7⟩ := (HBV.out W9 hSw).eight
  have bl := (HBV.out W9 hSw).lt
  go_simp
 try simp only [Act.put, List.setIfInBounds_toArray, List.set_cons_zero, List.set_cons_succ]
 refine wpAnyH_take (i := 4) (oi := ⟨some _, _, _, _, _, _⟩) (v := (.pointer (some ⟨w.heap.size, 2, none⟩))) rfl (by kernel_rfl) (by kernel_rfl) (by kernel_rfl) (fun _ _ _ h => h) (Or.inl ⟨by rfl, ?_⟩) ht ?_
 ·intro W9 hSw
  go_simp
 try simp only [Act.put, List.setIfInBounds_toArray, List.set_cons_zero, List.set_cons_succ]
 refine wpAnyH_take (i := 5) (oi := ⟨some _, _, _, _, _, _⟩) (v := (.agg #[.bool n.neg, .string ⟨n.digits.toArray⟩, .int .i64 n.exp])) rfl (by kernel_rfl) (by kernel_rfl) (by kernel_rfl) (fun _ _ _ h => h) (Or.inl ⟨by rfl, ?_⟩) ht ?_
 ·intro W9 hSw
  obtain ⟨a0, a1, a2, a3, a4, a5, a6, a7⟩ := (HBK.out W9 hSw).eight
  have al := (HBK.out W9 hSw).lt
  go_simp
 try simp only [Act.put, List.setIfInBounds_toArray, List.set_cons_zero, List.set_cons_succ]
 refine wpAnyH_ready (rs := [2]) (by kernel_rfl) (by simp) ?_
 refine AllReadyH.cons (o := ⟨some _, _, _, _, _, _⟩) rfl (fun K hK => ?_) (AllReadyH.nil)
 go_simp
 refine (HCH.out _).mono ?_
 rintro e1 w1 ⟨rfl, rfl⟩
 go_wp2_with fail
 refine hK.out _ _ ht (fun ht => ?_)
 clear hK K
 try simp only [Act.put, List.setIfInBounds_toArray, List.set_cons_zero, List.set_cons_succ]
 refine wpAnyH_ready (rs := [3]) (by kernel_rfl) (by simp) ?_
 refine AllReadyH.cons (o := ⟨some _, _, _, _, _, _⟩) rfl (fun K hK => ?_) (AllReadyH.nil)
 go_simp
 refine (HO1.out _).mono ?_
 rintro e2 w2 ⟨rfl, hb2⟩
 have hb2 := ht.trans (hb2.mono ht.size)
 go_wp2_with fail
 refine hK.out _ _ hb2 (fun ht => ?_)
 clear hK K hb2
 try simp only [Act.put, List.setIfInBounds_toArray, List.set_cons_zero, List.set_cons_succ]
 refine wpAnyH_ready (rs := [6]) (by kernel_rfl) (by simp) ?_
 refine AllReadyH.cons (o := ⟨some _, _, _, _, _, _⟩) rfl (fun K hK => ?_) (AllReadyH.nil)
 go_simp
 refine (HM1.out _).mono ?_
 rintro e3 w3 ⟨rfl, hb3⟩
 have hb3 := ht.trans (hb3.mono ht.size)
 go_wp2_with fail
 refine hK.out _ _ hb3 (fun ht => ?_)
 clear hK K hb3
 try simp only [Act.put, List.setIfInBounds_toArray, List.set_cons_zero, List.set_cons_succ]
 refine wpAnyH_take (i := 7) (oi := ⟨some _, _, _, _, _, _⟩) (v := (.int .i64 tx)) rfl (by kernel_rfl) (by kernel_rfl) (by kernel_rfl) (fun _ _ _ h => h) (Or.inl ⟨by rfl, ?_⟩) ht ?_
 ·intro W9 hSw
  go_simp
 try simp only [Act.put, List.setIfInBounds_toArray, List.set_cons_zero, List.set_cons_succ]
 refine wpAnyH_done (by kernel_rfl) ?_ _
 have HW3 := Lib.hid ht
 clear ht HCH HO1 HM1
 go_upto_region 2 with (fail)
 refine wp_region_held_drew (S := fun W9 => Below w0.heap.size w0 W9) (by kernel_rfl) (show Below w0.heap.size w0 w3.drew from below_drewN HW3.out 1) (fun ht => ?_)
 generalize w3.drew = w4 at *
 refine wpAnyH_take (i := 0) (oi := ⟨some _, _, _, _, _, _⟩) (v := (.pointer (some ⟨w.heap.size + 1, 6, none⟩))) rfl (by kernel_rfl) (by kernel_rfl) (by kernel_rfl) (fun _ _ _ h => h) (Or.inl ⟨by rfl, ?_⟩) ht ?_
 ·intro W9 hSw
  go_simp
 try simp only [Act.put, List.setIfInBounds_toArray, List.set_cons_zero, List.set_cons_succ]
 refine wpAnyH_take (i := 1) (oi := ⟨some _, _, _, _, _, _⟩) (v := (.slice Av vl.length ev)) rfl (by kernel_rfl) (by kernel_rfl) (by kernel_rfl) (fun _ _ _ h => h) (Or.inl ⟨by rfl, ?_⟩) ht ?_
 ·intro W9 hSw
  obtain ⟨b0, b1, b2, b3, b4, b5, b6, b7⟩ := (HBV.out W9 hSw).eight
  have bl := (HBV.out W9 hSw).lt
  go_simp
 try simp only [Act.put, List.setIfInBounds_toArray, List.set_cons_zero, List.set_cons_succ]
 refine wpAnyH_take (i := 2) (oi := ⟨some _, _, _, _, _, _⟩) (v := (.int .i64 vl.length)) rfl (by kernel_rfl) (by kernel_rfl) (by kernel_rfl) (fun _ _ _ h => h) (Or.inl ⟨by rfl, ?_⟩) ht ?_
 ·intro W9 hSw
  go_simp
 try simp only [Act.put, List.setIfInBounds_toArray, List.set_cons_zero, List.set_cons_succ]
 refine wpAnyH_take (i := 4) (oi := ⟨some _, _, _, _, _, _⟩) (v := (.pointer (some ⟨w.heap.size, 2, none⟩))) rfl (by kernel_rfl) (by kernel_rfl) (by kernel_rfl) (fun _ _ _ h => h) (Or.inl ⟨by rfl, ?_⟩) ht ?_
 ·intro W9 hSw
  go_simp
 try simp only [Act.put, List.setIfInBounds_toArray, List.set_cons_zero, List.set_cons_succ]
 refine wpAnyH_take (i := 5) (oi := ⟨some _, _, _, _, _, _⟩) (v := (.agg #[.bool n.neg, .string ⟨n.digits.toArray⟩, .int .i64 n.exp])) rfl (by kernel_rfl) (by kernel_rfl) (by kernel_rfl) (fun _ _ _ h => h) (Or.inl ⟨by rfl, ?_⟩) ht ?_
 ·intro W9 hSw
  obtain ⟨a0, a1, a2, a3, a4, a5, a6, a7⟩ := (HBK.out W9 hSw).eight
  have al := (HBK.out W9 hSw).lt
  go_simp
 try simp only [Act.put, List.setIfInBounds_toArray, List.set_cons_zero, List.set_cons_succ]
 refine wpAnyH_ready (rs := [3]) (by kernel_rfl) (by simp) ?_
 refine AllReadyH.cons (o := ⟨some _, _, _, _, _, _⟩) rfl (fun K hK => ?_) (AllReadyH.nil)
 go_simp
 refine (HO2.out _).mono ?_
 rintro e5 w5 ⟨rfl, hb5⟩
 have hb5 := ht.trans (hb5.mono ht.size)
 go_wp2_with fail
 refine hK.out _ _ hb5 (fun ht => ?_)
 clear hK K hb5
 try simp only [Act.put, List.setIfInBounds_toArray, List.set_cons_zero, List.set_cons_succ]
 refine wpAnyH_ready (rs := [6]) (by kernel_rfl) (by simp) ?_
 refine AllReadyH.cons (o := ⟨some _, _, _, _, _, _⟩) rfl (fun K hK => ?_) (AllReadyH.nil)
 go_simp
 refine (HM2.out _).mono ?_
 rintro e6 w6 ⟨rfl, hb6⟩
 have hb6 := ht.trans (hb6.mono ht.size)
 go_wp2_with fail
 refine hK.out _ _ hb6 (fun ht => ?_)
 clear hK K hb6
 try simp only [Act.put, List.setIfInBounds_toArray, List.set_cons_zero, List.set_cons_succ]
 refine wpAnyH_take (i := 7) (oi := ⟨some _, _, _, _, _, _⟩) (v := (.int .i64 mn)) rfl (by kernel_rfl) (by kernel_rfl) (by kernel_rfl) (fun _ _ _ h => h) (Or.inl ⟨by rfl, ?_⟩) ht ?_
 ·intro W9 hSw
  go_simp
 try simp only [Act.put, List.setIfInBounds_toArray, List.set_cons_zero, List.set_cons_succ]
 refine wpAnyH_done (by kernel_rfl) ?_ _
 have HW6 := Lib.hid ht
 clear ht HO2 HM2 HW3
 obtain ⟨a0, a1, a2, a3, a4, a5, a6, a7⟩ := (HBK.out _ HW6.out).eight
 have al := (HBK.out _ HW6.out).lt
 obtain ⟨b0, b1, b2, b3, b4, b5, b6, b7⟩ := (HBV.out _ HW6.out).eight
 have bl := (HBV.out _ HW6.out).lt
 go_wp2_with fail
 refine (HM3.out _).mono ?_
 rintro e7 w7 ⟨rfl, hb7⟩
 have HW7 := Lib.hid (HW6.out.trans (hb7.mono HW6.out.size))
 clear hb7 HM3 HW6 a0 a1 a2 a3 a4 a5 a6 a7 al b0 b1 b2 b3 b4 b5 b6 b7 bl
 have HBB := Lib.hid (HB0.out.trans (HW7.out.mono HB0.out.size))
 obtain ⟨a0, a1, a2, a3, a4, a5, a6, a7⟩ := (HBK.out _ HW7.out).eight
 have al := (HBK.out _ HW7.out).lt
 obtain ⟨b0, b1, b2, b3, b4, b5, b6, b7⟩ := (HBV.out _ HW7.out).eight
 have bl := (HBV.out _ HW7.out).lt
 subst HNM
 have HF := Lib.hid (show Ow.fails [117, 110, 105, 113, 117, 101, 73, 116, 101, 109, 115] (.mk k b n s l m) (.mk vk vb vn vs vl vm) = (Ow.dup [] vl && b) from rfl)
 clear a0 a1 a2 a3 a4 a5 a6 a7 al b0 b1 b2 b3 b4 b5 b6 b7 bl
 go_wp2_with fail
 go_loopw [10, 16] (fun f10 i16 wr => ∃ j : Nat, f10 = .bool (Ow.dup [] (vl.take j) && b) ∧ i16 = .int .i64 j ∧ j ≤ vl.length ∧ Below w0.heap.size w0 wr) (fun _ i _ => vl.length - (intOf i).toNat)
 case atStart => exact ⟨0, rfl, rfl, Nat.zero_le _, HW7.out⟩
 case round =>
  obtain ⟨j, rfl, rfl, hj, hbr⟩ := hrel
  obtain ⟨wz, hwz⟩ : ∃ W, W = wr := ⟨_, rfl⟩
  subst hwz
  have HBR := Lib.hid hbr
  clear hbr
  obtain ⟨b0, b1, b2, b3, b4, b5, b6, b7⟩ := (HBV.out _ HBR.out).eight
  have bl := (HBV.out _ HBR.out).lt
  by_cases hlt : j < vl.length
  ·have hjj : (j : Int) < (vl.length : Int) := by omega
   have HLW := Lib.hid (fun (W : World) (h : Below wz.heap.size wz W) => HLV.out.keep (le_below (HB0.out.trans ((HBR.out.trans (h.mono HBR.out.size)).mono HB0.out.size))))
   obtain ⟨g, o, y, hA, hy, hcl⟩ := (HLW.out wz (Below.refl _ _)) j _ (List.getElem?_eq_getElem hlt)
   obtain ⟨x, hx⟩ : ∃ x, vl[j]'hlt = x := ⟨_, rfl⟩
   have HDN := Lib.hid (show Ow.dup [] (vl.take (j + 1)) = (Ow.dup [] (vl.take j) || Ow.among (vl.take j) x) by rw [List.take_succ_eq_append_getElem hlt, hx, Ow.dup_snoc]; rfl)
   rw [hx] at hy
   clear hx
   obtain ⟨y_1, y_2, y_3, y_4, y_5, y_6, y_7, y_8, y_9, y_a, y_b, y_c, rfl⟩ := In.cells hy
   subst hA
   have HXC := Lib.hid (fun (W : World) (h : Below wz.heap.size wz W) => hcl.keep (le_below h))
   have HAM := Lib.hid (fun (W : World) (h : Below wz.heap.size wz W) => refAmong_any (vl.take j) (some ⟨g, o, none⟩) ev x (.agg #[.int .i64 y_1, .bool y_2, .bool y_3, .string ⟨y_4.toArray⟩, .int .i64 y_5, .string ⟨y_6.toArray⟩, .slice y_7 y_8 y_9, .slice y_a y_b y_c]) W (slL_take14 (HLW.out W h) j) (by rw [List.length_take]; omega) (by unfold maxLen; omega) (In.keep (le_below h) _ _ hy))
   rw [show (vl.take j).length = j by rw [List.length_take]; omega] at HAM
   obtain ⟨am, ham⟩ : ∃ q, Ow.among (vl.take j) x = q := ⟨_, rfl⟩
   obtain ⟨dd, hdd⟩ : ∃ q, Ow.dup [] (vl.take j) = q := ⟨_, rfl⟩
   rw [ham] at HAM HDN
   rw [hdd] at HDN ⊢
   have HNX := HDN
   clear HDN hy hcl ham hdd
   have hs8 : ∀ W : World, (Instr.slice 28 (.slice (some ⟨g, o, none⟩) vl.length ev) none (some (.int .i64 (j : Int))) none).run Tryz.prog W = .ok (.slice (some ⟨g, o, none⟩) j ev) W := fun W => by
    obtain ⟨i0, hi0, hz0, hz1, hz2⟩ := infoV14
    rw [run_slice_h W 28 (some ⟨g, o, none⟩) vl.length ev (by simp [Program.elem, Tryz.underlying28]) .i64 (j : Int) (by omega) (by omega)]
    rw [show Tryz.prog.elem 28 = 31 by simp [Program.elem, Tryz.underlying28]]
    simp [sizeOf, typeInfo, hi0, hz1, sliced, Addr.add]
   go_upto_region 38 with (fail)
   clear b0 b1 b2 b3 b4 b5 b6 b7 bl
   refine wp_region_held_drew (S := fun W9 => Below wz.heap.size wz W9) (by kernel_rfl) (show Below wz.heap.size wz wz.drew from below_drewN (Below.refl _ _) 1) (fun ht => ?_)
   generalize wz.drew = w8 at *
   refine wpAnyH_take (i := 0) (oi := ⟨some _, _, _, _, _, _⟩) (v := (.pointer (some ⟨w.heap.size + 1, 6, none⟩))) rfl (by kernel_rfl) (by kernel_rfl) (by kernel_rfl) (fun _ _ _ h => h) (Or.inl ⟨by rfl, ?_⟩) ht ?_
   ·intro W9 hSw
    go_simp
   try simp only [Act.put, List.setIfInBounds_toArray, List.set_cons_zero, List.set_cons_succ]
   refine wpAnyH_take (i := 1) (oi := ⟨some _, _, _, _, _, _⟩) (v := (.slice (some ⟨g, o, none⟩) vl.length ev)) rfl (by kernel_rfl) (by kernel_rfl) (by kernel_rfl) (fun _ _ _ h => h) (Or.inl ⟨by rfl, ?_⟩) ht ?_
   ·intro W9 hSw
    obtain ⟨b0, b1, b2, b3, b4, b5, b6, b7⟩ := (HBV.out W9 (HBR.out.trans (hSw.mono HBR.out.size))).eight
    have bl := (HBV.out W9 (HBR.out.trans (hSw.mono HBR.out.size))).lt
    go_simp
   try simp only [Act.put, List.setIfInBounds_toArray, List.set_cons_zero, List.set_cons_succ]
   refine wpAnyH_take (i := 2) (oi := ⟨some _, _, _, _, _, _⟩) (v := (.int .i64 j)) rfl (by kernel_rfl) (by kernel_rfl) (by kernel_rfl) (fun _ _ _ h => h) (Or.inl ⟨by rfl, ?_⟩) ht ?_
   ·intro W9 hSw
    go_simp
   try simp only [Act.put, List.setIfInBounds_toArray, List.set_cons_zero, List.set_cons_succ]
   refine wpAnyH_take (i := 3) (oi := ⟨some _, _, _, _, _, _⟩) (v := (.slice (some ⟨g, o, none⟩) j ev)) rfl (by kernel_rfl) (by kernel_rfl) (by kernel_rfl) (fun _ _ _ h => h) (Or.inl ⟨by rfl, ?_⟩) ht ?_
   ·intro W9 hSw
    go_simp
   try simp only [Act.put, List.setIfInBounds_toArray, List.set_cons_zero, List.set_cons_succ]
   refine wpAnyH_take (i := 4) (oi := ⟨some _, _, _, _, _, _⟩) (v := (.pointer (some ⟨w.heap.size + 1, 6, none⟩))) rfl (by kernel_rfl) (by kernel_rfl) (by kernel_rfl) (fun _ _ _ h => h) (Or.inl ⟨by rfl, ?_⟩) ht ?_
   ·intro W9 hSw
    go_simp
   try simp only [Act.put, List.setIfInBounds_toArray, List.set_cons_zero, List.set_cons_succ]
   refine wpAnyH_take (i := 5) (oi := ⟨some _, _, _, _, _, _⟩) (v := (.slice (some ⟨g, o, none⟩) vl.length ev)) rfl (by kernel_rfl) (by kernel_rfl) (by kernel_rfl) (fun _ _ _ h => h) (Or.inl ⟨by rfl, ?_⟩) ht ?_
   ·intro W9 hSw
    obtain ⟨b0, b1, b2, b3, b4, b5, b6, b7⟩ := (HBV.out W9 (HBR.out.trans (hSw.mono HBR.out.size))).eight
    have bl := (HBV.out W9 (HBR.out.trans (hSw.mono HBR.out.size))).lt
    go_simp
   try simp only [Act.put, List.setIfInBounds_toArray, List.set_cons_zero, List.set_cons_succ]
   refine wpAnyH_take (i := 6) (oi := ⟨some _, _, _, _, _, _⟩) (v := (.int .i64 j)) rfl (by kernel_rfl) (by kernel_rfl) (by kernel_rfl) (fun _ _ _ h => h) (Or.inl ⟨by rfl, ?_⟩) ht ?_
   ·intro W9 hSw
    go_simp
   try simp only [Act.put, List.setIfInBounds_toArray, List.set_cons_zero, List.set_cons_succ]
   refine wpAnyH_take (i := 7) (oi := ⟨some _, _, _, _, _, _⟩) (v := (.pointer (some ⟨g, o + j * 8, none⟩))) rfl (by kernel_rfl) (by kernel_rfl) (by kernel_rfl) (fun _ _ _ h => h) (Or.inl ⟨by rfl, ?_⟩) ht ?_
   ·intro W9 hSw
    go_simp
   try simp only [Act.put, List.setIfInBounds_toArray, List.set_cons_zero, List.set_cons_succ]
   refine wpAnyH_take (i := 8) (oi := ⟨some _, _, _, _, _, _⟩) (v := (.agg #[.int .i64 y_1, .bool y_2, .bool y_3, .string ⟨y_4.toArray⟩, .int .i64 y_5, .string ⟨y_6.toArray⟩, .slice y_7 y_8 y_9, .slice y_a y_b y_c])) rfl (by kernel_rfl) (by kernel_rfl) (by kernel_rfl) (fun _ _ _ h => h) (Or.inl ⟨by rfl, ?_⟩) ht ?_
   ·intro W9 hSw
    obtain ⟨c0, c1, c2, c3, c4, c5, c6, c7⟩ := (HXC.out W9 hSw).eight
    have hgl := World.block_lt_of_cell? _ _ c0
    go_simp
   try simp only [Act.put, List.setIfInBounds_toArray, List.set_cons_zero, List.set_cons_succ]
   refine wpAnyH_ready (rs := [9]) (by kernel_rfl) (by simp) ?_
   refine AllReadyH.cons (o := ⟨some _, _, _, _, _, _⟩) rfl (fun K hK => ?_) (AllReadyH.nil)
   go_simp
   refine (HAM.out _ ht).mono ?_
   rintro e9 w9 ⟨rfl, hb9⟩
   have hb9 := ht.trans (hb9.mono ht.size)
   clear ht
   go_wp2_with fail
   refine hK.out _ _ hb9 (fun ht => ?_)
   clear hK K hb9
   try simp only [Act.put, List.setIfInBounds_toArray, List.set_cons_zero, List.set_cons_succ]
   refine wpAnyH_take (i := 10) (oi := ⟨some _, _, _, _, _, _⟩) (v := (.bool am)) rfl (by kernel_rfl) (by kernel_rfl) (by kernel_rfl) (fun _ _ _ h => h) (Or.inl ⟨by rfl, ?_⟩) ht ?_
   ·intro W9 hSw
    go_simp
   try simp only [Act.put, List.setIfInBounds_toArray, List.set_cons_zero, List.set_cons_succ]
   refine wpAnyH_done (by kernel_rfl) ?_ _
   have HB9 := Lib.hid (HBR.out.trans (ht.mono HBR.out.size))
   clear ht
   obtain ⟨a0, a1, a2, a3, a4, a5, a6, a7⟩ := (HBK.out _ HB9.out).eight
   have al := (HBK.out _ HB9.out).lt
   have HNT := Lib.hid (show (Ow.dup [] (vl.take (j + 1)) && b) = (dd && b || am && b) by rw [HNX.out, Bool.and_or_distrib_right])
   obtain ⟨db, hdb⟩ : ∃ q, (dd && b) = q := ⟨_, rfl⟩
   rw [hdb] at HNT ⊢
   clear hdb
   obtain ⟨b2, hb2⟩ : ∃ q, b = q := ⟨_, rfl⟩
   rw [hb2] at a1 HNT
   have HB2 := Lib.hid hb2
   clear hb2
   cases db <;> cases am <;> cases b2
   all_goals
    go_wp2_with fail
    go_roundw
    case rel => exact ⟨j + 1, by first | (rw [HB2.out, HNT.out]; done) | (rw [HB2.out, HNT.out]; rfl), by go_num, by omega, HB9.out⟩
    case measure => simp [intOf]; omega
  ·obtain rfl : j = vl.length := by omega
   have HF2 := Lib.hid (show Ow.fails [117, 110, 105, 113, 117, 101, 73, 116, 101, 109, 115] (.mk k b n s l m) (.mk vk vb vn vs vl vm) = (Ow.dup [] (vl.take vl.length) && b) by rw [List.take_length]; exact HF.out)
   rw [← HF2.out]
   go_wp2_with fail
   go_ret
   exact ⟨rfl, HB0.out.trans (HBR.out.mono HB0.out.size)⟩

end Go.Proofs.YtolkfgikomminaaGreatDoor

