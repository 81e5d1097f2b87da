/- Hb: Hb Hc Hd, in one text. -/
import Derived.Test.YtolkfgikomminaaGreatDoorHa
import Derived.Test.YtolkfgikomminaaGreatDoorRg
import Derived.Test.YtolkfgikomminaaGreatDoorSf
import Derived.Test.YtolkfgikomminaaGreatDoorMo
import Derived.Deep.RegionHeld3
import Derived.Test.YtolkfgikomminaaGreatDoorWj
namespace Go.Proofs.YtolkfgikomminaaGreatDoor
open Go.RowKit Js

theorem Ow.charsGo_step (f : Nat) {l : List UInt8} (h : l ≠ []) : Ow.charsGo (f + 1) l = Ow.charsGo f (l.drop (max (St.utf8 l) 1)) + 1 := by
 cases l with
 | nil => exact absurd rfl h
 | cons c r => rfl
theorem Ow.charsGo_nil (f : Nat) : Ow.charsGo f [] = 0 := by cases f <;> rfl
set_option maxHeartbeats 1000000 in
theorem refChars_any (s : ByteArray) (w : World) (hs : s.size ≤ 1000000000) :
  Calls Tryz.prog 31 #[.string s] w fun e w' => e = .returned (.int .i64 (Ow.chars s.data.toList)) ∧ w = w' := by
 have hsl : s.data.toList.length = s.size := (Lib.size_eq s).symm
 have HSL := Lib.hid hsl
 clear hsl
 go_enter Tryz.func31, Tryz.ntmps31
 go_wp2
 go_loop [3, 4] (fun c v => ∃ k f q : Nat, k ≤ s.size ∧ s.size - k ≤ f ∧ q ≤ k ∧ c = .int .i64 q ∧ v = .int .i64 k ∧ Ow.charsGo f (s.data.toList.drop k) + q = Ow.chars s.data.toList) (fun _ v => s.size - (intOf v).toNat)
 case atStart => exact ⟨0, s.size, 0, Nat.zero_le _, Nat.sub_le _ _, Nat.le_refl _, rfl, rfl, by unfold Ow.chars; rw [HSL.out]; rfl⟩
 case round =>
  obtain ⟨k, f, q, hk, hf, hq, rfl, rfl, hr⟩ := hrel
  have HR := Lib.hid hr
  clear hr
  by_cases hlt : k < s.size
  ·obtain ⟨f, rfl⟩ : ∃ f', f = f' + 1 := ⟨f - 1, by omega⟩
   have HU := Lib.hid (Ow.charsGo_step f (l := s.data.toList.drop k) (by rw [drop_at s k hlt]; simp))
   have hle := (St.utf8_le (s.data.toList.drop k)).1
   rw [List.length_drop, HSL.out] at hle
   go_wp2_with fail
   refine (utf8_any s k _ (by omega) hlt).mono ?_
   rintro e w' ⟨rfl, rfl⟩
   generalize St.utf8 (s.data.toList.drop k) = n at HU hle ⊢
   obtain ⟨n1, hn1⟩ : ∃ n1, max n 1 = n1 := ⟨_, rfl⟩
   have hn2 : 1 ≤ n1 ∧ k + n1 ≤ s.size := by omega
   have hmx : max (n : Int) 1 = (n1 : Int) := by omega
   rw [hn1, List.drop_drop] at HU
   clear hn1
   go_wp2
   go_round
   case rel => exact ⟨k + n1, f, q + 1, by omega, by omega, by omega, by go_num, by go_num, by rw [← HR.out, HU.out]; omega⟩
   case measure => simp [intOf]; omega
  ·have HE := Lib.hid (show (q : Nat) = Ow.chars s.data.toList by rw [← HR.out, List.drop_eq_nil_of_le (by rw [HSL.out]; omega), Ow.charsGo_nil, Nat.zero_add])
   go_wp2
   go_ret
   exact ⟨by rw [← HE.out]; rfl, rfl⟩

set_option linter.unusedVariables false in
set_option linter.unusedSimpArgs false in
set_option maxRecDepth 100000 in
set_option maxHeartbeats 2000000 in
theorem refIs_any (v : Vl) (nm : List UInt8) (x : Value) (w : World) (hm : v.may = true) (hx : v.In w.cell? x) : Calls Tryz.prog 32 #[x, .string ⟨nm.toArray⟩] w fun e w' => e = .returned (.bool (Ow.is v nm)) ∧ Below w.heap.size w w' := by
 obtain ⟨k, b, n, s, l, m⟩ := v
 obtain ⟨A, e, B, d, rfl, q1, q2, q3, q4, q5, q6⟩ := In.form hx
 have hk := (may_own hm).1
 have hk2 := (may_own hm).2.1
 have hal := (Below.refl w.heap.size w).alloc (Nat.le_refl _) (.cells #[.int .i64 k, .bool b, .bool n.neg, .string ⟨n.digits.toArray⟩, .int .i64 n.exp, .string ⟨s.toArray⟩, .slice A l.length e, .slice B m.length d] 31)
 have HB := Lib.hid (show ∀ o : Obj, Below w.heap.size w ((w.alloc (.cells #[.int .i64 k, .bool b, .bool n.neg, .string ⟨n.digits.toArray⟩, .int .i64 n.exp, .string ⟨s.toArray⟩, .slice A l.length e, .slice B m.length d] 31)).alloc o) from fun o => hal.alloc hal.size o)
 clear hx hm q1 q2 q3 q4 q5 q6 hal
 have hk6 : k = 0 ∨ k = 1 ∨ k = 2 ∨ k = 3 ∨ k = 4 ∨ k = 5 := by omega
 by_cases hi : nm = Ow.kInteger
 ·subst hi
  have HWH := Lib.hid (fun W => refWhole_any n.neg n.digits n.exp W)
  have HBX := Lib.hid (fun o : Obj => (Blk.new w 31 #[.int .i64 k, .bool b, .bool n.neg, .string ⟨n.digits.toArray⟩, .int .i64 n.exp, .string ⟨s.toArray⟩, .slice A l.length e, .slice B m.length d]).alloc o)
  have hkk : ∀ q : Bool, (decide (k = 2) && q) = (if (k == 2) = true then q else false) := fun q => by
   by_cases h : k = 2
   ·subst h; rfl
   ·have : (k == 2) = false := by rw [beq_eq_false_iff_ne]; exact h
    rw [this, decide_eq_false h]; rfl
  obtain ⟨wh, hwh⟩ : ∃ q, (n.digits.isEmpty || decide (0 ≤ n.exp)) = q := ⟨_, rfl⟩
  have HIS := Lib.hid (show Ow.is (.mk k b n s l m) Ow.kInteger = (if (k == 2) = true then wh else false) by rw [← hkk, ← hwh]; rfl)
  rw [hwh] at HWH
  clear hkk hwh hk6 hk hk2
  go_enter Tryz.func32, Tryz.ntmps32
  go_upto_region 2 with (fail)
  have HB2 := Lib.hid (HB.out (.cells #[.string ⟨#[110, 117, 108, 108]⟩, .string ⟨#[98, 111, 111, 108, 101, 97, 110]⟩, .string ⟨#[110, 117, 109, 98, 101, 114]⟩, .string ⟨#[115, 116, 114, 105, 110, 103]⟩, .string ⟨#[97, 114, 114, 97, 121]⟩, .string ⟨#[111, 98, 106, 101, 99, 116]⟩] 9))
  have HX2 := Lib.hid (HBX.out (.cells #[.string ⟨#[110, 117, 108, 108]⟩, .string ⟨#[98, 111, 111, 108, 101, 97, 110]⟩, .string ⟨#[110, 117, 109, 98, 101, 114]⟩, .string ⟨#[115, 116, 114, 105, 110, 103]⟩, .string ⟨#[97, 114, 114, 97, 121]⟩, .string ⟨#[111, 98, 106, 101, 99, 116]⟩] 9))
  generalize (w.alloc (.cells #[.int .i64 k, .bool b, .bool n.neg, .string ⟨n.digits.toArray⟩, .int .i64 n.exp, .string ⟨s.toArray⟩, .slice A l.length e, .slice B m.length d] 31)).alloc (.cells #[.string ⟨#[110, 117, 108, 108]⟩, .string ⟨#[98, 111, 111, 108, 101, 97, 110]⟩, .string ⟨#[110, 117, 109, 98, 101, 114]⟩, .string ⟨#[115, 116, 114, 105, 110, 103]⟩, .string ⟨#[97, 114, 114, 97, 121]⟩, .string ⟨#[111, 98, 106, 101, 99, 116]⟩] 9) = w1 at *
  obtain ⟨f0, f1, f2, f3, f4, f5, f6, f7⟩ := HX2.out.eight
  have hbl := HX2.out.lt
  go_wp2_with fail
  refine (HWH.out _).mono ?_
  rintro e1 w2 ⟨rfl, hb2⟩
  have HB3 := Lib.hid (HB2.out.trans (hb2.mono HB2.out.size))
  have HX3 := Lib.hid (HX2.out.on hb2)
  clear f0 f1 f2 f3 f4 f5 f6 f7 hbl hb2 HX2 HB2
  obtain ⟨f0, f1, f2, f3, f4, f5, f6, f7⟩ := HX3.out.eight
  have hbl := HX3.out.lt
  cases hq : (k == 2) with
  | true =>
   rw [hq] at HIS
   go_wp2_with fail
   go_ret
   exact ⟨by rw [HIS.out]; rfl, HB3.out⟩
  | false =>
   rw [hq] at HIS
   go_wp2_with fail
   go_ret
   exact ⟨by rw [HIS.out]; rfl, HB3.out⟩
 ·have hne : (nm == [105, 110, 116, 101, 103, 101, 114]) = false := by rw [beq_eq_false_iff_ne]; exact hi
  have HIS := Lib.hid (show ∀ q, Ow.kinds.getD k.toNat [] = q → Ow.is (.mk k b n s l m) nm = (q == nm) from fun q h => by unfold Ow.is; rw [if_neg hi, ← h]; rfl)
  clear hi hk hk2
  rcases hk6 with rfl | rfl | rfl | rfl | rfl | rfl
  all_goals
   go_enter Tryz.func32, Tryz.ntmps32
   go_wp2_with fail
   go_ret
   exact ⟨by rw [HIS.out _ rfl]; rfl, HB.out _⟩

set_option linter.unusedVariables false in
set_option linter.unusedSimpArgs false in
set_option maxRecDepth 100000 in
set_option maxHeartbeats 2000000 in
theorem refAmong_any (l : List Vl) (A : Option Addr) (c : Nat) (u : Vl) (x : Value) (w : World) (hs : SlL w.cell? A l) (hl : l.length ≤ c) (hc : c ≤ maxLen) (hx : u.In w.cell? x) : Calls Tryz.prog 33 #[.slice A l.length c, x] w fun e w' => e = .returned (.bool (Ow.among l u)) ∧ Below w.heap.size w w' := by
 obtain ⟨k_1, k_2, k_3, k_4, k_5, k_6, k_7, k_8, k_9, k_a, k_b, k_c, rfl⟩ := In.cells hx
 have HS := Lib.hid hs
 have HX := Lib.hid hx
 unfold maxLen at hc
 have HB := Lib.hid ((Below.refl w.heap.size w).alloc (Nat.le_refl _) (.cells #[.int .i64 k_1, .bool k_2, .bool k_3, .string ⟨k_4.toArray⟩, .int .i64 k_5, .string ⟨k_6.toArray⟩, .slice k_7 k_8 k_9, .slice k_a k_b k_c] 31))
 have HK := Lib.hid (Blk.new w 31 #[.int .i64 k_1, .bool k_2, .bool k_3, .string ⟨k_4.toArray⟩, .int .i64 k_5, .string ⟨k_6.toArray⟩, .slice k_7 k_8 k_9, .slice k_a k_b k_c])
 clear hs hx
 go_enter Tryz.func33, Tryz.ntmps33
 go_upto_region 1 with (fail)
 generalize w.alloc (.cells #[.int .i64 k_1, .bool k_2, .bool k_3, .string ⟨k_4.toArray⟩, .int .i64 k_5, .string ⟨k_6.toArray⟩, .slice k_7 k_8 k_9, .slice k_a k_b k_c] 31) = w0 at *
 go_wp2_with fail
 go_loopw [5] (fun i wr => ∃ j : Nat, j ≤ l.length ∧ i = .int .i64 j ∧ Ow.among (l.take j) u = false ∧ Below w0.heap.size w0 wr) (fun i _ => l.length - (intOf i).toNat)
 case atStart => exact ⟨0, by omega, rfl, rfl, Below.refl _ _⟩
 case round =>
  obtain ⟨j, hj, rfl, hno, hbr⟩ := hrel
  obtain ⟨wz, hwz⟩ : ∃ W, W = wr := ⟨_, rfl⟩
  subst hwz
  have HBR := Lib.hid hbr
  have HNO := Lib.hid hno
  clear hbr hno
  have HBW := Lib.hid (HB.out.trans (HBR.out.mono HB.out.size))
  by_cases hlt : j < l.length
  ·have hjj : (j : Int) < (l.length : Int) := by omega
   obtain ⟨g, o, y, hA, hy, hcl⟩ := (HS.out.keep (le_below HBW.out)) j _ (List.getElem?_eq_getElem hlt)
   obtain ⟨y_1, y_2, y_3, y_4, y_5, y_6, y_7, y_8, y_9, y_a, y_b, y_c, rfl⟩ := In.cells hy
   subst hA
   have HNX := Lib.hid (show ∀ z, l[j]'hlt = z → Ow.among (l.take (j + 1)) u = z.same u from fun z hz => by
    have h0 : Ow.among (l.take j) u = false := HNO.out
    unfold Ow.among at h0 ⊢
    rw [List.take_succ_eq_append_getElem hlt, List.any_append, h0, hz]
    simp)
   have HALL := Lib.hid (show ∀ z, l[j]'hlt = z → z.same u = true → Ow.among l u = true from fun z hz h => List.any_eq_true.2 ⟨z, hz ▸ List.getElem_mem hlt, h⟩)
   obtain ⟨z, hz⟩ : ∃ z, l[j]'hlt = z := ⟨_, rfl⟩
   rw [hz] at hy
   have HZN := Lib.hid (HNX.out z hz)
   have HZA := Lib.hid (HALL.out z hz)
   have HSM := Lib.hid (fun (W : World) (h : Below wz.heap.size wz W) => refSame_any z u (.agg #[.int .i64 y_1, .bool y_2, .bool y_3, .string ⟨y_4.toArray⟩, .int .i64 y_5, .string ⟨y_6.toArray⟩, .slice y_7 y_8 y_9, .slice y_a y_b y_c]) (.agg #[.int .i64 k_1, .bool k_2, .bool k_3, .string ⟨k_4.toArray⟩, .int .i64 k_5, .string ⟨k_6.toArray⟩, .slice k_7 k_8 k_9, .slice k_a k_b k_c]) W (In.keep (le_below h) _ _ hy) (In.keep (le_below (HBW.out.trans (h.mono HBW.out.size))) _ _ HX.out))
   have HYC := Lib.hid (fun (W : World) (h : Below wz.heap.size wz W) => hcl.keep (le_below h))
   have HKC := Lib.hid (fun (W : World) (h : Below wz.heap.size wz W) => HK.out.on (HBR.out.trans (h.mono HBR.out.size)))
   clear hy hcl hz HNX HALL
   obtain ⟨sm, hsm⟩ : ∃ q, z.same u = q := ⟨_, rfl⟩
   rw [hsm] at HSM HZN HZA
   clear hsm
   go_upto_region 4 with (fail)
   refine wp_region_held_drew (S := fun W9 => Below wz.heap.size wz W9) (by kernel_rfl) (show Below wz.heap.size wz wz.drew from below_drewN (Below.refl _ _) 1) (fun ht => ?_)
   generalize wz.drew = w8 at *
   refine wpAnyH_take (i := 0) (oi := ⟨some _, _, _, _, _, _⟩) (v := (.slice (some ⟨g, o, none⟩) l.length c)) rfl (by kernel_rfl) (by kernel_rfl) (by kernel_rfl) (fun _ _ _ h => h) (Or.inl ⟨by rfl, ?_⟩) ht ?_
   ·intro W9 hSw
    go_simp
   try simp only [Act.put, List.setIfInBounds_toArray, List.set_cons_zero, List.set_cons_succ]
   refine wpAnyH_take (i := 1) (oi := ⟨some _, _, _, _, _, _⟩) (v := (.int .i64 j)) rfl (by kernel_rfl) (by kernel_rfl) (by kernel_rfl) (fun _ _ _ h => h) (Or.inl ⟨by rfl, ?_⟩) ht ?_
   ·intro W9 hSw
    go_simp
   try simp only [Act.put, List.setIfInBounds_toArray, List.set_cons_zero, List.set_cons_succ]
   refine wpAnyH_take (i := 2) (oi := ⟨some _, _, _, _, _, _⟩) (v := (.pointer (some ⟨g, o + j * 8, none⟩))) rfl (by kernel_rfl) (by kernel_rfl) (by kernel_rfl) (fun _ _ _ h => h) (Or.inl ⟨by rfl, ?_⟩) ht ?_
   ·intro W9 hSw
    go_simp
   try simp only [Act.put, List.setIfInBounds_toArray, List.set_cons_zero, List.set_cons_succ]
   refine wpAnyH_take (i := 3) (oi := ⟨some _, _, _, _, _, _⟩) (v := (.agg #[.int .i64 y_1, .bool y_2, .bool y_3, .string ⟨y_4.toArray⟩, .int .i64 y_5, .string ⟨y_6.toArray⟩, .slice y_7 y_8 y_9, .slice y_a y_b y_c])) rfl (by kernel_rfl) (by kernel_rfl) (by kernel_rfl) (fun _ _ _ h => h) (Or.inl ⟨by rfl, ?_⟩) ht ?_
   ·intro W9 hSw
    obtain ⟨e0, e1, e2, e3, e4, e5, e6, e7⟩ := (HYC.out W9 hSw).eight
    have hgl := World.block_lt_of_cell? _ _ e0
    go_simp
   try simp only [Act.put, List.setIfInBounds_toArray, List.set_cons_zero, List.set_cons_succ]
   refine wpAnyH_take (i := 4) (oi := ⟨some _, _, _, _, _, _⟩) (v := (.agg #[.int .i64 k_1, .bool k_2, .bool k_3, .string ⟨k_4.toArray⟩, .int .i64 k_5, .string ⟨k_6.toArray⟩, .slice k_7 k_8 k_9, .slice k_a k_b k_c])) rfl (by kernel_rfl) (by kernel_rfl) (by kernel_rfl) (fun _ _ _ h => h) (Or.inl ⟨by rfl, ?_⟩) ht ?_
   ·intro W9 hSw
    obtain ⟨e0, e1, e2, e3, e4, e5, e6, e7⟩ := (HKC.out W9 hSw).eight
    have hgl := (HKC.out W9 hSw).lt
    go_simp
   try simp only [Act.put, List.setIfInBounds_toArray, List.set_cons_zero, List.set_cons_succ]
   refine wpAnyH_ready (rs := [5]) (by kernel_rfl) (by simp) ?_
   refine AllReadyH.cons (o := ⟨some _, _, _, _, _, _⟩) rfl (fun K hK => ?_) (AllReadyH.nil)
   go_simp
   refine (HSM.out _ ht).mono ?_
   rintro e9 w9 ⟨rfl, hb9⟩
   have hb9 := ht.trans (hb9.mono ht.size)
   clear ht
   go_wp2_with fail
   refine hK.out _ _ hb9 (fun ht => ?_)
   clear hK K hb9
   try simp only [Act.put, List.setIfInBounds_toArray, List.set_cons_zero, List.set_cons_succ]
   refine wpAnyH_take (i := 6) (oi := ⟨some _, _, _, _, _, _⟩) (v := (.bool sm)) rfl (by kernel_rfl) (by kernel_rfl) (by kernel_rfl) (fun _ _ _ h => h) (Or.inl ⟨by rfl, ?_⟩) ht ?_
   ·intro W9 hSw
    go_simp
   try simp only [Act.put, List.setIfInBounds_toArray, List.set_cons_zero, List.set_cons_succ]
   refine wpAnyH_done (by kernel_rfl) ?_ _
   have HB9 := Lib.hid (HBW.out.trans (ht.mono HBW.out.size))
   have HBQ := Lib.hid (HBR.out.trans (ht.mono HBR.out.size))
   clear ht
   cases sm with
   | true =>
    go_wp2_with fail
    go_ret
    exact ⟨by rw [HZA.out (by trivial)]; rfl, HB9.out⟩
   | false =>
    go_wp2_with fail
    go_roundw
    case rel => exact ⟨j + 1, by omega, by go_num, HZN.out, HBQ.out⟩
    case measure => simp [intOf]; omega
  ·obtain rfl : j = l.length := by omega
   have HF := Lib.hid (show Ow.among l u = false by have := HNO.out; rwa [List.take_length] at this)
   go_wp2_with fail
   go_ret
   exact ⟨by rw [HF.out]; rfl, HBW.out⟩

end Go.Proofs.YtolkfgikomminaaGreatDoor

namespace Go.Proofs.YtolkfgikomminaaGreatDoor
open Go.RowKit Js

theorem Nm.countMay14 (c : Nat) (h : c ≤ 1000000) : Nm.May (Nm.count (c : Int)) := Nm.laws.countMay c (by omega) (by omega)
theorem Ow.charsGo_le : ∀ (f : Nat) (l : List UInt8), Ow.charsGo f l ≤ f
 | 0, _ => Nat.le_refl _
 | f + 1, [] => Nat.zero_le _
 | f + 1, c :: r => by
  have := Ow.charsGo_le f ((c :: r).drop (max (St.utf8 (c :: r)) 1))
  rw [Ow.charsGo]
  omega
theorem Ow.chars_le (s : List UInt8) : Ow.chars s ≤ s.length := Ow.charsGo_le _ _
set_option linter.unusedVariables false in
set_option linter.unusedSimpArgs false in
set_option maxRecDepth 100000 in
set_option maxHeartbeats 8000000 in
theorem refFails_cmp (nm : List UInt8) (kv v : Vl) (xk xv : Value) (w : World) (hmk : kv.may = true) (hmv : v.may = true) (hsz : v.size ≤ 1000000) (hsl : v.slim 1000000) (hxk : kv.In w.cell? xk) (hxv : v.In w.cell? xv) :
  (nm = [109, 105, 110, 105, 109, 117, 109] ∨ nm = [109, 97, 120, 105, 109, 117, 109] ∨ nm = [109, 105, 110, 76, 101, 110, 103, 116, 104] ∨ nm = [109, 97, 120, 76, 101, 110, 103, 116, 104] ∨ nm = [109, 105, 110, 73, 116, 101, 109, 115] ∨ nm = [109, 97, 120, 73, 116, 101, 109, 115]) →
  Calls Tryz.prog 16 #[.string ⟨nm.toArray⟩, xk, xv] w fun e w' => e = .returned (.bool (Ow.fails nm kv v)) ∧ Below w.heap.size w w' := by
 intro HNM
 obtain ⟨k, b, n, s, l, m⟩ := kv
 obtain ⟨vk, vb, vn, vs, vl, vm⟩ := v
 obtain ⟨A, e, B, d, rfl, q1, q2, q3, q4, q5, q6⟩ := In.form hxk
 obtain ⟨Av, ev, Bv, dv, rfl, r1, r2, r3, r4, r5, r6⟩ := In.form hxv
 have HXK := Lib.hid hxk
 have HXV := Lib.hid hxv
 have HLK := Lib.hid (show SlL w.cell? A l from q5)
 have HLV := Lib.hid (show SlL w.cell? Av vl from r5)
 have HQ2 := Lib.hid q2
 have HR2 := Lib.hid r2
 have hsk := (mayNum_May (may_own hmk).2.2.2.2.2.2.2.1).small
 have hsv := (mayNum_May (may_own hmv).2.2.2.2.2.2.2.1).small
 have hvl : vl.length ≤ 1000000 := by
  have h : vl.length ≤ sizeL vl := sizeL_len vl
  simp only [Vl.size] at hsz; omega
 have hvs : vs.length ≤ 1000000 := by simp only [Vl.slim] at hsl; exact hsl.2.1
 unfold maxLen at q2 r2
 have HB0 := Lib.hid (show Below w.heap.size w ((w.alloc (.cells #[.int .i64 k, .bool b, .bool n.neg, .string ⟨n.digits.toArray⟩, .int .i64 n.exp, .string ⟨s.toArray⟩, .slice A l.length e, .slice B m.length d] 31)).alloc (.cells #[.int .i64 vk, .bool vb, .bool vn.neg, .string ⟨vn.digits.toArray⟩, .int .i64 vn.exp, .string ⟨vs.toArray⟩, .slice Av vl.length ev, .slice Bv vm.length dv] 31)) from ((Below.refl _ _).alloc (Nat.le_refl _) _).alloc (by simp) _)
 have HK0 := Lib.hid (show Blk ((w.alloc (.cells #[.int .i64 k, .bool b, .bool n.neg, .string ⟨n.digits.toArray⟩, .int .i64 n.exp, .string ⟨s.toArray⟩, .slice A l.length e, .slice B m.length d] 31)).alloc (.cells #[.int .i64 vk, .bool vb, .bool vn.neg, .string ⟨vn.digits.toArray⟩, .int .i64 vn.exp, .string ⟨vs.toArray⟩, .slice Av vl.length ev, .slice Bv vm.length dv] 31)) w.heap.size 31 #[.int .i64 k, .bool b, .bool n.neg, .string ⟨n.digits.toArray⟩, .int .i64 n.exp, .string ⟨s.toArray⟩, .slice A l.length e, .slice B m.length d] from (Blk.new w 31 _).alloc _)
 have HV0 := Lib.hid (show Blk ((w.alloc (.cells #[.int .i64 k, .bool b, .bool n.neg, .string ⟨n.digits.toArray⟩, .int .i64 n.exp, .string ⟨s.toArray⟩, .slice A l.length e, .slice B m.length d] 31)).alloc (.cells #[.int .i64 vk, .bool vb, .bool vn.neg, .string ⟨vn.digits.toArray⟩, .int .i64 vn.exp, .string ⟨vs.toArray⟩, .slice Av vl.length ev, .slice Bv vm.length dv] 31)) (w.heap.size + 1) 31 #[.int .i64 vk, .bool vb, .bool vn.neg, .string ⟨vn.digits.toArray⟩, .int .i64 vn.exp, .string ⟨vs.toArray⟩, .slice Av vl.length ev, .slice Bv vm.length dv] from Blk.new2 w (.cells #[.int .i64 k, .bool b, .bool n.neg, .string ⟨n.digits.toArray⟩, .int .i64 n.exp, .string ⟨s.toArray⟩, .slice A l.length e, .slice B m.length d] 31) 31 _)
 have hmk2 := hmk
 have hmv2 := hmv
 clear hxk hxv q3 q4 q5 q6 r3 r4 r5 r6 hsz hsl hmk hmv
 go_enter Tryz.func16, Tryz.ntmps16
 go_upto_region 1 with (fail)
 generalize (w.alloc (.cells #[.int .i64 k, .bool b, .bool n.neg, .string ⟨n.digits.toArray⟩, .int .i64 n.exp, .string ⟨s.toArray⟩, .slice A l.length e, .slice B m.length d] 31)).alloc (.cells #[.int .i64 vk, .bool vb, .bool vn.neg, .string ⟨vn.digits.toArray⟩, .int .i64 vn.exp, .string ⟨vs.toArray⟩, .slice Av vl.length ev, .slice Bv vm.length dv] 31) = w0 at *
 have HBK := Lib.hid (fun (W : World) (h : Below w0.heap.size w0 W) => HK0.out.on h)
 have HBV := Lib.hid (fun (W : World) (h : Below w0.heap.size w0 W) => HV0.out.on h)
 have HCH := Lib.hid (fun W => refChars_any ⟨vs.toArray⟩ W (by rw [Lib.size_mk]; omega))
 obtain ⟨ct, hct⟩ : ∃ ct, Ow.chars vs = ct := ⟨_, rfl⟩
 have hctl : ct ≤ 1000000 := by rw [← hct]; exact Nat.le_trans (Ow.chars_le vs) hvs
 obtain ⟨c1, hc1⟩ : ∃ c, Nm.count (ct : Int) = c := ⟨_, rfl⟩
 have hcm1 : Nm.Small c1 := by rw [← hc1]; exact (Nm.countMay14 ct (by omega)).small
 obtain ⟨c2, hc2⟩ : ∃ c, Nm.count (vl.length : Int) = c := ⟨_, rfl⟩
 have hcm2 : Nm.Small c2 := by rw [← hc2]; exact (Nm.countMay14 vl.length (by omega)).small
 have HO1 := Lib.hid (fun W => refOf_any (ct : Int) W (by omega) (by omega))
 have HO2 := Lib.hid (fun W => refOf_any (vl.length : Int) W (by omega) (by omega))
 rw [show (Nm.parse (Lib.itoa (ct : Int))).1 = c1 from hc1] at HO1
 rw [show (Nm.parse (Lib.itoa (vl.length : Int))).1 = c2 from hc2] at HO2
 unfold numV at HO1 HO2
 rw [show (⟨vs.toArray⟩ : ByteArray).data.toList = vs from rfl, hct] at HCH
 have HM1 := Lib.hid (fun W => refCmp_any c1.neg c1.digits c1.exp n.neg n.digits n.exp W hcm1 hsk)
 have HM2 := Lib.hid (fun W => refCmp_any c2.neg c2.digits c2.exp n.neg n.digits n.exp W hcm2 hsk)
 have HM3 := Lib.hid (fun W => refCmp_any vn.neg vn.digits vn.exp n.neg n.digits n.exp W hsv hsk)
 obtain ⟨tx, htx⟩ : ∃ q, Nm.refCmp c1 n = q := ⟨_, rfl⟩
 obtain ⟨mn, hmn⟩ : ∃ q, Nm.refCmp c2 n = q := ⟨_, rfl⟩
 obtain ⟨sz, hsz⟩ : ∃ q, Nm.refCmp vn n = q := ⟨_, rfl⟩
 rw [show Nm.refCmp ⟨c1.neg, c1.digits, c1.exp⟩ ⟨n.neg, n.digits, n.exp⟩ = tx from htx] at HM1
 rw [show Nm.refCmp ⟨c2.neg, c2.digits, c2.exp⟩ ⟨n.neg, n.digits, n.exp⟩ = mn from hmn] at HM2
 rw [show Nm.refCmp ⟨vn.neg, vn.digits, vn.exp⟩ ⟨n.neg, n.digits, n.exp⟩ = sz from hsz] at HM3
 have HTX := Lib.hid (show Nm.refCmp (Nm.count (Ow.chars vs)) n = tx by rw [hct, hc1, htx])
 have HMN := Lib.hid (show Nm.refCmp (Nm.count vl.length) n = mn by rw [hc2, hmn])
 have HSZ := Lib.hid hsz
 clear hct hc1 hc2 hcm1 hcm2 htx hmn hsz hsk hsv
 refine wp_region_held_drew (S := fun W9 => Below w0.heap.size w0 W9) (by kernel_rfl) (show Below w0.heap.size w0 w0.drew from below_drewN (Below.refl _ _) 1) (fun ht => ?_)
 generalize w0.drew = w0d at *
 refine wpAnyH_take (i := 0) (oi := ⟨some _, _, _, _, _, _⟩) (v := (.pointer (some ⟨w.heap.size + 1, 5, none⟩))) rfl (by kernel_rfl) (by kernel_rfl) (by kernel_rfl) (fun _ _ _ h => h) (Or.inl ⟨by rfl, ?_⟩) ht ?_
 ·intro W9 hSw
  go_simp
 try simp only [Act.put, List.setIfInBounds_toArray, List.set_cons_zero, List.set_cons_succ]
 refine wpAnyH_take (i := 1) (oi := ⟨some _, _, _, _, _, _⟩) (v := (.string ⟨vs.toArray⟩)) rfl (by kernel_rfl) (by kernel_rfl) (by kernel_rfl) (fun _ _ _ h => h) (Or.inl ⟨by rfl, ?_⟩) ht ?_
 ·intro W9 hSw
  obtain ⟨b0, b1, b2, b3, b4, b5, b6, b7⟩ := (HBV.out W9 hSw).eight
  have bl := (HBV.out W9 hSw).lt
  go_simp
 try simp only [Act.put, List.setIfInBounds_toArray, List.set_cons_zero, List.set_cons_succ]
 refine wpAnyH_take (i := 4) (oi := ⟨some _, _, _, _, _, _⟩) (v := (.pointer (some ⟨w.heap.size, 2, none⟩))) rfl (by kernel_rfl) (by kernel_rfl) (by kernel_rfl) (fun _ _ _ h => h) (Or.inl ⟨by rfl, ?_⟩) ht ?_
 ·intro W9 hSw
  go_simp
 try simp only [Act.put, List.setIfInBounds_toArray, List.set_cons_zero, List.set_cons_succ]
 refine wpAnyH_take (i := 5) (oi := ⟨some _, _, _, _, _, _⟩) (v := (.agg #[.bool n.neg, .string ⟨n.digits.toArray⟩, .int .i64 n.exp])) rfl (by kernel_rfl) (by kernel_rfl) (by kernel_rfl) (fun _ _ _ h => h) (Or.inl ⟨by rfl, ?_⟩) ht ?_
 ·intro W9 hSw
  obtain ⟨a0, a1, a2, a3, a4, a5, a6, a7⟩ := (HBK.out W9 hSw).eight
  have al := (HBK.out W9 hSw).lt
  go_simp
 try simp only [Act.put, List.setIfInBounds_toArray, List.set_cons_zero, List.set_cons_succ]
 refine wpAnyH_ready (rs := [2]) (by kernel_rfl) (by simp) ?_
 refine AllReadyH.cons (o := ⟨some _, _, _, _, _, _⟩) rfl (fun K hK => ?_) (AllReadyH.nil)
 go_simp
 refine (HCH.out _).mono ?_
 rintro e1 w1 ⟨rfl, rfl⟩
 go_wp2_with fail
 refine hK.out _ _ ht (fun ht => ?_)
 clear hK K
 try simp only [Act.put, List.setIfInBounds_toArray, List.set_cons_zero, List.set_cons_succ]
 refine wpAnyH_ready (rs := [3]) (by kernel_rfl) (by simp) ?_
 refine AllReadyH.cons (o := ⟨some _, _, _, _, _, _⟩) rfl (fun K hK => ?_) (AllReadyH.nil)
 go_simp
 refine (HO1.out _).mono ?_
 rintro e2 w2 ⟨rfl, hb2⟩
 have hb2 := ht.trans (hb2.mono ht.size)
 go_wp2_with fail
 refine hK.out _ _ hb2 (fun ht => ?_)
 clear hK K hb2
 try simp only [Act.put, List.setIfInBounds_toArray, List.set_cons_zero, List.set_cons_succ]
 refine wpAnyH_ready (rs := [6]) (by kernel_rfl) (by simp) ?_
 refine AllReadyH.cons (o := ⟨some _, _, _, _, _, _⟩) rfl (fun K hK => ?_) (AllReadyH.nil)
 go_simp
 refine (HM1.out _).mono ?_
 rintro e3 w3 ⟨rfl, hb3⟩
 have hb3 := ht.trans (hb3.mono ht.size)
 go_wp2_with fail
 refine hK.out _ _ hb3 (fun ht => ?_)
 clear hK K hb3
 try simp only [Act.put, List.setIfInBounds_toArray, List.set_cons_zero, List.set_cons_succ]
 refine wpAnyH_take (i := 7) (oi := ⟨some _, _, _, _, _, _⟩) (v := (.int .i64 tx)) rfl (by kernel_rfl) (by kernel_rfl) (by kernel_rfl) (fun _ _ _ h => h) (Or.inl ⟨by rfl, ?_⟩) ht ?_
 ·intro W9 hSw
  go_simp
 try simp only [Act.put, List.setIfInBounds_toArray, List.set_cons_zero, List.set_cons_succ]
 refine wpAnyH_done (by kernel_rfl) ?_ _
 have HW3 := Lib.hid ht
 clear ht HCH HO1 HM1
 go_upto_region 2 with (fail)
 refine wp_region_held_drew (S := fun W9 => Below w0.heap.size w0 W9) (by kernel_rfl) (show Below w0.heap.size w0 w3.drew from below_drewN HW3.out 1) (fun ht => ?_)
 generalize w3.drew = w4 at *
 refine wpAnyH_take (i := 0) (oi := ⟨some _, _, _, _, _, _⟩) (v := (.pointer (some ⟨w.heap.size + 1, 6, none⟩))) rfl (by kernel_rfl) (by kernel_rfl) (by kernel_rfl) (fun _ _ _ h => h) (Or.inl ⟨by rfl, ?_⟩) ht ?_
 ·intro W9 hSw
  go_simp
 try simp only [Act.put, List.setIfInBounds_toArray, List.set_cons_zero, List.set_cons_succ]
 refine wpAnyH_take (i := 1) (oi := ⟨some _, _, _, _, _, _⟩) (v := (.slice Av vl.length ev)) rfl (by kernel_rfl) (by kernel_rfl) (by kernel_rfl) (fun _ _ _ h => h) (Or.inl ⟨by rfl, ?_⟩) ht ?_
 ·intro W9 hSw
  obtain ⟨b0, b1, b2, b3, b4, b5, b6, b7⟩ := (HBV.out W9 hSw).eight
  have bl := (HBV.out W9 hSw).lt
  go_simp
 try simp only [Act.put, List.setIfInBounds_toArray, List.set_cons_zero, List.set_cons_succ]
 refine wpAnyH_take (i := 2) (oi := ⟨some _, _, _, _, _, _⟩) (v := (.int .i64 vl.length)) rfl (by kernel_rfl) (by kernel_rfl) (by kernel_rfl) (fun _ _ _ h => h) (Or.inl ⟨by rfl, ?_⟩) ht ?_
 ·intro W9 hSw
  go_simp
 try simp only [Act.put, List.setIfInBounds_toArray, List.set_cons_zero, List.set_cons_succ]
 refine wpAnyH_take (i := 4) (oi := ⟨some _, _, _, _, _, _⟩) (v := (.pointer (some ⟨w.heap.size, 2, none⟩))) rfl (by kernel_rfl) (by kernel_rfl) (by kernel_rfl) (fun _ _ _ h => h) (Or.inl ⟨by rfl, ?_⟩) ht ?_
 ·intro W9 hSw
  go_simp
 try simp only [Act.put, List.setIfInBounds_toArray, List.set_cons_zero, List.set_cons_succ]
 refine wpAnyH_take (i := 5) (oi := ⟨some _, _, _, _, _, _⟩) (v := (.agg #[.bool n.neg, .string ⟨n.digits.toArray⟩, .int .i64 n.exp])) rfl (by kernel_rfl) (by kernel_rfl) (by kernel_rfl) (fun _ _ _ h => h) (Or.inl ⟨by rfl, ?_⟩) ht ?_
 ·intro W9 hSw
  obtain ⟨a0, a1, a2, a3, a4, a5, a6, a7⟩ := (HBK.out W9 hSw).eight
  have al := (HBK.out W9 hSw).lt
  go_simp
 try simp only [Act.put, List.setIfInBounds_toArray, List.set_cons_zero, List.set_cons_succ]
 refine wpAnyH_ready (rs := [3]) (by kernel_rfl) (by simp) ?_
 refine AllReadyH.cons (o := ⟨some _, _, _, _, _, _⟩) rfl (fun K hK => ?_) (AllReadyH.nil)
 go_simp
 refine (HO2.out _).mono ?_
 rintro e5 w5 ⟨rfl, hb5⟩
 have hb5 := ht.trans (hb5.mono ht.size)
 go_wp2_with fail
 refine hK.out _ _ hb5 (fun ht => ?_)
 clear hK K hb5
 try simp only [Act.put, List.setIfInBounds_toArray, List.set_cons_zero, List.set_cons_succ]
 refine wpAnyH_ready (rs := [6]) (by kernel_rfl) (by simp) ?_
 refine AllReadyH.cons (o := ⟨some _, _, _, _, _, _⟩) rfl (fun K hK => ?_) (AllReadyH.nil)
 go_simp
 refine (HM2.out _).mono ?_
 rintro e6 w6 ⟨rfl, hb6⟩
 have hb6 := ht.trans (hb6.mono ht.size)
 go_wp2_with fail
 refine hK.out _ _ hb6 (fun ht => ?_)
 clear hK K hb6
 try simp only [Act.put, List.setIfInBounds_toArray, List.set_cons_zero, List.set_cons_succ]
 refine wpAnyH_take (i := 7) (oi := ⟨some _, _, _, _, _, _⟩) (v := (.int .i64 mn)) rfl (by kernel_rfl) (by kernel_rfl) (by kernel_rfl) (fun _ _ _ h => h) (Or.inl ⟨by rfl, ?_⟩) ht ?_
 ·intro W9 hSw
  go_simp
 try simp only [Act.put, List.setIfInBounds_toArray, List.set_cons_zero, List.set_cons_succ]
 refine wpAnyH_done (by kernel_rfl) ?_ _
 have HW6 := Lib.hid ht
 clear ht HO2 HM2 HW3
 obtain ⟨a0, a1, a2, a3, a4, a5, a6, a7⟩ := (HBK.out _ HW6.out).eight
 have al := (HBK.out _ HW6.out).lt
 obtain ⟨b0, b1, b2, b3, b4, b5, b6, b7⟩ := (HBV.out _ HW6.out).eight
 have bl := (HBV.out _ HW6.out).lt
 go_wp2_with fail
 refine (HM3.out _).mono ?_
 rintro e7 w7 ⟨rfl, hb7⟩
 have HW7 := Lib.hid (HW6.out.trans (hb7.mono HW6.out.size))
 clear hb7 HM3 HW6 a0 a1 a2 a3 a4 a5 a6 a7 al b0 b1 b2 b3 b4 b5 b6 b7 bl
 have HBB := Lib.hid (HB0.out.trans (HW7.out.mono HB0.out.size))
 obtain ⟨a0, a1, a2, a3, a4, a5, a6, a7⟩ := (HBK.out _ HW7.out).eight
 have al := (HBK.out _ HW7.out).lt
 obtain ⟨b0, b1, b2, b3, b4, b5, b6, b7⟩ := (HBV.out _ HW7.out).eight
 have bl := (HBV.out _ HW7.out).lt
 rcases HNM with rfl | rfl | rfl | rfl | rfl | rfl
 ·by_cases h2 : vk = 2
  ·have e2 : (vk == 2) = true := by rw [h2]; rfl
   have HF := Lib.hid (show Ow.fails [109, 105, 110, 105, 109, 117, 109] (.mk k b n s l m) (.mk vk vb vn vs vl vm) = decide (sz < 0) by show (decide (vk = 2) && decide (Nm.refCmp vn n < 0)) = _; rw [decide_eq_true h2, HSZ.out]; rfl)
   go_wp2_with fail
   go_ret
   exact ⟨by rw [HF.out]; rfl, HBB.out⟩
  ·have e2 : (vk == 2) = false := by rw [beq_eq_false_iff_ne]; exact h2
   have HF := Lib.hid (show Ow.fails [109, 105, 110, 105, 109, 117, 109] (.mk k b n s l m) (.mk vk vb vn vs vl vm) = false by show (decide (vk = 2) && decide (Nm.refCmp vn n < 0)) = _; rw [decide_eq_false h2]; rfl)
   go_wp2_with fail
   go_ret
   exact ⟨by rw [HF.out]; rfl, HBB.out⟩
 ·by_cases h2 : vk = 2
  ·have e2 : (vk == 2) = true := by rw [h2]; rfl
   have HF := Lib.hid (show Ow.fails [109, 97, 120, 105, 109, 117, 109] (.mk k b n s l m) (.mk vk vb vn vs vl vm) = decide (0 < sz) by show (decide (vk = 2) && decide (0 < Nm.refCmp vn n)) = _; rw [decide_eq_true h2, HSZ.out]; rfl)
   go_wp2_with fail
   go_ret
   exact ⟨by rw [HF.out]; rfl, HBB.out⟩
  ·have e2 : (vk == 2) = false := by rw [beq_eq_false_iff_ne]; exact h2
   have HF := Lib.hid (show Ow.fails [109, 97, 120, 105, 109, 117, 109] (.mk k b n s l m) (.mk vk vb vn vs vl vm) = false by show (decide (vk = 2) && decide (0 < Nm.refCmp vn n)) = _; rw [decide_eq_false h2]; rfl)
   go_wp2_with fail
   go_ret
   exact ⟨by rw [HF.out]; rfl, HBB.out⟩
 ·by_cases h2 : vk = 3
  ·have e2 : (vk == 3) = true := by rw [h2]; rfl
   have HF := Lib.hid (show Ow.fails [109, 105, 110, 76, 101, 110, 103, 116, 104] (.mk k b n s l m) (.mk vk vb vn vs vl vm) = decide (tx < 0) by show (decide (vk = 3) && decide (Nm.refCmp (Nm.count (Ow.chars vs)) n < 0)) = _; rw [decide_eq_true h2, HTX.out]; rfl)
   go_wp2_with fail
   go_ret
   exact ⟨by rw [HF.out]; rfl, HBB.out⟩
  ·have e2 : (vk == 3) = false := by rw [beq_eq_false_iff_ne]; exact h2
   have HF := Lib.hid (show Ow.fails [109, 105, 110, 76, 101, 110, 103, 116, 104] (.mk k b n s l m) (.mk vk vb vn vs vl vm) = false by show (decide (vk = 3) && decide (Nm.refCmp (Nm.count (Ow.chars vs)) n < 0)) = _; rw [decide_eq_false h2]; rfl)
   go_wp2_with fail
   go_ret
   exact ⟨by rw [HF.out]; rfl, HBB.out⟩
 ·by_cases h2 : vk = 3
  ·have e2 : (vk == 3) = true := by rw [h2]; rfl
   have HF := Lib.hid (show Ow.fails [109, 97, 120, 76, 101, 110, 103, 116, 104] (.mk k b n s l m) (.mk vk vb vn vs vl vm) = decide (0 < tx) by show (decide (vk = 3) && decide (0 < Nm.refCmp (Nm.count (Ow.chars vs)) n)) = _; rw [decide_eq_true h2, HTX.out]; rfl)
   go_wp2_with fail
   go_ret
   exact ⟨by rw [HF.out]; rfl, HBB.out⟩
  ·have e2 : (vk == 3) = false := by rw [beq_eq_false_iff_ne]; exact h2
   have HF := Lib.hid (show Ow.fails [109, 97, 120, 76, 101, 110, 103, 116, 104] (.mk k b n s l m) (.mk vk vb vn vs vl vm) = false by show (decide (vk = 3) && decide (0 < Nm.refCmp (Nm.count (Ow.chars vs)) n)) = _; rw [decide_eq_false h2]; rfl)
   go_wp2_with fail
   go_ret
   exact ⟨by rw [HF.out]; rfl, HBB.out⟩
 ·by_cases h2 : vk = 4
  ·have e2 : (vk == 4) = true := by rw [h2]; rfl
   have HF := Lib.hid (show Ow.fails [109, 105, 110, 73, 116, 101, 109, 115] (.mk k b n s l m) (.mk vk vb vn vs vl vm) = decide (mn < 0) by show (decide (vk = 4) && decide (Nm.refCmp (Nm.count vl.length) n < 0)) = _; rw [decide_eq_true h2, HMN.out]; rfl)
   go_wp2_with fail
   go_ret
   exact ⟨by rw [HF.out]; rfl, HBB.out⟩
  ·have e2 : (vk == 4) = false := by rw [beq_eq_false_iff_ne]; exact h2
   have HF := Lib.hid (show Ow.fails [109, 105, 110, 73, 116, 101, 109, 115] (.mk k b n s l m) (.mk vk vb vn vs vl vm) = false by show (decide (vk = 4) && decide (Nm.refCmp (Nm.count vl.length) n < 0)) = _; rw [decide_eq_false h2]; rfl)
   go_wp2_with fail
   go_ret
   exact ⟨by rw [HF.out]; rfl, HBB.out⟩
 ·by_cases h2 : vk = 4
  ·have e2 : (vk == 4) = true := by rw [h2]; rfl
   have HF := Lib.hid (show Ow.fails [109, 97, 120, 73, 116, 101, 109, 115] (.mk k b n s l m) (.mk vk vb vn vs vl vm) = decide (0 < mn) by show (decide (vk = 4) && decide (0 < Nm.refCmp (Nm.count vl.length) n)) = _; rw [decide_eq_true h2, HMN.out]; rfl)
   go_wp2_with fail
   go_ret
   exact ⟨by rw [HF.out]; rfl, HBB.out⟩
  ·have e2 : (vk == 4) = false := by rw [beq_eq_false_iff_ne]; exact h2
   have HF := Lib.hid (show Ow.fails [109, 97, 120, 73, 116, 101, 109, 115] (.mk k b n s l m) (.mk vk vb vn vs vl vm) = false by show (decide (vk = 4) && decide (0 < Nm.refCmp (Nm.count vl.length) n)) = _; rw [decide_eq_false h2]; rfl)
   go_wp2_with fail
   go_ret
   exact ⟨by rw [HF.out]; rfl, HBB.out⟩

end Go.Proofs.YtolkfgikomminaaGreatDoor

namespace Go.Proofs.YtolkfgikomminaaGreatDoor
open Go.RowKit Js

theorem Ow.kw14_no {nm : List UInt8} (h : ∀ x ∈ Ow.keys14.map (·.1), nm ≠ x) : Ow.kw14 nm = 0 := by
 unfold Ow.kw14
 rw [List.find?_eq_none.2 (fun p hp => by
  have := h p.1 (List.mem_map.2 ⟨p, hp, rfl⟩)
  simpa using fun e => this e.symm)]
 rfl
set_option linter.unusedVariables false in
set_option linter.unusedSimpArgs false in
set_option maxRecDepth 100000 in
set_option maxHeartbeats 8000000 in
theorem refFails_eq (nm : List UInt8) (kv v : Vl) (xk xv : Value) (w : World) (hmk : kv.may = true) (hmv : v.may = true) (hsz : v.size ≤ 1000000) (hsl : v.slim 1000000) (hxk : kv.In w.cell? xk) (hxv : v.In w.cell? xv) :
  (nm = [101, 110, 117, 109] ∨ nm = [99, 111, 110, 115, 116]) →
  Calls Tryz.prog 16 #[.string ⟨nm.toArray⟩, xk, xv] w fun e w' => e = .returned (.bool (Ow.fails nm kv v)) ∧ Below w.heap.size w w' := by
 intro HNM
 obtain ⟨k, b, n, s, l, m⟩ := kv
 obtain ⟨vk, vb, vn, vs, vl, vm⟩ := v
 obtain ⟨A, e, B, d, rfl, q1, q2, q3, q4, q5, q6⟩ := In.form hxk
 obtain ⟨Av, ev, Bv, dv, rfl, r1, r2, r3, r4, r5, r6⟩ := In.form hxv
 have HXK := Lib.hid hxk
 have HXV := Lib.hid hxv
 have HLK := Lib.hid (show SlL w.cell? A l from q5)
 have HLV := Lib.hid (show SlL w.cell? Av vl from r5)
 have HQ2 := Lib.hid q2
 have HR2 := Lib.hid r2
 have hsk := (mayNum_May (may_own hmk).2.2.2.2.2.2.2.1).small
 have hsv := (mayNum_May (may_own hmv).2.2.2.2.2.2.2.1).small
 have hvl : vl.length ≤ 1000000 := by
  have h : vl.length ≤ sizeL vl := sizeL_len vl
  simp only [Vl.size] at hsz; omega
 have hvs : vs.length ≤ 1000000 := by simp only [Vl.slim] at hsl; exact hsl.2.1
 unfold maxLen at q2 r2
 have HB0 := Lib.hid (show Below w.heap.size w ((w.alloc (.cells #[.int .i64 k, .bool b, .bool n.neg, .string ⟨n.digits.toArray⟩, .int .i64 n.exp, .string ⟨s.toArray⟩, .slice A l.length e, .slice B m.length d] 31)).alloc (.cells #[.int .i64 vk, .bool vb, .bool vn.neg, .string ⟨vn.digits.toArray⟩, .int .i64 vn.exp, .string ⟨vs.toArray⟩, .slice Av vl.length ev, .slice Bv vm.length dv] 31)) from ((Below.refl _ _).alloc (Nat.le_refl _) _).alloc (by simp) _)
 have HK0 := Lib.hid (show Blk ((w.alloc (.cells #[.int .i64 k, .bool b, .bool n.neg, .string ⟨n.digits.toArray⟩, .int .i64 n.exp, .string ⟨s.toArray⟩, .slice A l.length e, .slice B m.length d] 31)).alloc (.cells #[.int .i64 vk, .bool vb, .bool vn.neg, .string ⟨vn.digits.toArray⟩, .int .i64 vn.exp, .string ⟨vs.toArray⟩, .slice Av vl.length ev, .slice Bv vm.length dv] 31)) w.heap.size 31 #[.int .i64 k, .bool b, .bool n.neg, .string ⟨n.digits.toArray⟩, .int .i64 n.exp, .string ⟨s.toArray⟩, .slice A l.length e, .slice B m.length d] from (Blk.new w 31 _).alloc _)
 have HV0 := Lib.hid (show Blk ((w.alloc (.cells #[.int .i64 k, .bool b, .bool n.neg, .string ⟨n.digits.toArray⟩, .int .i64 n.exp, .string ⟨s.toArray⟩, .slice A l.length e, .slice B m.length d] 31)).alloc (.cells #[.int .i64 vk, .bool vb, .bool vn.neg, .string ⟨vn.digits.toArray⟩, .int .i64 vn.exp, .string ⟨vs.toArray⟩, .slice Av vl.length ev, .slice Bv vm.length dv] 31)) (w.heap.size + 1) 31 #[.int .i64 vk, .bool vb, .bool vn.neg, .string ⟨vn.digits.toArray⟩, .int .i64 vn.exp, .string ⟨vs.toArray⟩, .slice Av vl.length ev, .slice Bv vm.length dv] from Blk.new2 w (.cells #[.int .i64 k, .bool b, .bool n.neg, .string ⟨n.digits.toArray⟩, .int .i64 n.exp, .string ⟨s.toArray⟩, .slice A l.length e, .slice B m.length d] 31) 31 _)
 have hmk2 := hmk
 have hmv2 := hmv
 clear hxk hxv q3 q4 q5 q6 r3 r4 r5 r6 hsz hsl hmk hmv
 go_enter Tryz.func16, Tryz.ntmps16
 go_upto_region 1 with (fail)
 generalize (w.alloc (.cells #[.int .i64 k, .bool b, .bool n.neg, .string ⟨n.digits.toArray⟩, .int .i64 n.exp, .string ⟨s.toArray⟩, .slice A l.length e, .slice B m.length d] 31)).alloc (.cells #[.int .i64 vk, .bool vb, .bool vn.neg, .string ⟨vn.digits.toArray⟩, .int .i64 vn.exp, .string ⟨vs.toArray⟩, .slice Av vl.length ev, .slice Bv vm.length dv] 31) = w0 at *
 have HBK := Lib.hid (fun (W : World) (h : Below w0.heap.size w0 W) => HK0.out.on h)
 have HBV := Lib.hid (fun (W : World) (h : Below w0.heap.size w0 W) => HV0.out.on h)
 have HCH := Lib.hid (fun W => refChars_any ⟨vs.toArray⟩ W (by rw [Lib.size_mk]; omega))
 obtain ⟨ct, hct⟩ : ∃ ct, Ow.chars vs = ct := ⟨_, rfl⟩
 have hctl : ct ≤ 1000000 := by rw [← hct]; exact Nat.le_trans (Ow.chars_le vs) hvs
 obtain ⟨c1, hc1⟩ : ∃ c, Nm.count (ct : Int) = c := ⟨_, rfl⟩
 have hcm1 : Nm.Small c1 := by rw [← hc1]; exact (Nm.countMay14 ct (by omega)).small
 obtain ⟨c2, hc2⟩ : ∃ c, Nm.count (vl.length : Int) = c := ⟨_, rfl⟩
 have hcm2 : Nm.Small c2 := by rw [← hc2]; exact (Nm.countMay14 vl.length (by omega)).small
 have HO1 := Lib.hid (fun W => refOf_any (ct : Int) W (by omega) (by omega))
 have HO2 := Lib.hid (fun W => refOf_any (vl.length : Int) W (by omega) (by omega))
 rw [show (Nm.parse (Lib.itoa (ct : Int))).1 = c1 from hc1] at HO1
 rw [show (Nm.parse (Lib.itoa (vl.length : Int))).1 = c2 from hc2] at HO2
 unfold numV at HO1 HO2
 rw [show (⟨vs.toArray⟩ : ByteArray).data.toList = vs from rfl, hct] at HCH
 have HM1 := Lib.hid (fun W => refCmp_any c1.neg c1.digits c1.exp n.neg n.digits n.exp W hcm1 hsk)
 have HM2 := Lib.hid (fun W => refCmp_any c2.neg c2.digits c2.exp n.neg n.digits n.exp W hcm2 hsk)
 have HM3 := Lib.hid (fun W => refCmp_any vn.neg vn.digits vn.exp n.neg n.digits n.exp W hsv hsk)
 obtain ⟨tx, htx⟩ : ∃ q, Nm.refCmp c1 n = q := ⟨_, rfl⟩
 obtain ⟨mn, hmn⟩ : ∃ q, Nm.refCmp c2 n = q := ⟨_, rfl⟩
 obtain ⟨sz, hsz⟩ : ∃ q, Nm.refCmp vn n = q := ⟨_, rfl⟩
 rw [show Nm.refCmp ⟨c1.neg, c1.digits, c1.exp⟩ ⟨n.neg, n.digits, n.exp⟩ = tx from htx] at HM1
 rw [show Nm.refCmp ⟨c2.neg, c2.digits, c2.exp⟩ ⟨n.neg, n.digits, n.exp⟩ = mn from hmn] at HM2
 rw [show Nm.refCmp ⟨vn.neg, vn.digits, vn.exp⟩ ⟨n.neg, n.digits, n.exp⟩ = sz from hsz] at HM3
 have HTX := Lib.hid (show Nm.refCmp (Nm.count (Ow.chars vs)) n = tx by rw [hct, hc1, htx])
 have HMN := Lib.hid (show Nm.refCmp (Nm.count vl.length) n = mn by rw [hc2, hmn])
 have HSZ := Lib.hid hsz
 clear hct hc1 hc2 hcm1 hcm2 htx hmn hsz hsk hsv
 refine wp_region_held_drew (S := fun W9 => Below w0.heap.size w0 W9) (by kernel_rfl) (show Below w0.heap.size w0 w0.drew from below_drewN (Below.refl _ _) 1) (fun ht => ?_)
 generalize w0.drew = w0d at *
 refine wpAnyH_take (i := 0) (oi := ⟨some _, _, _, _, _, _⟩) (v := (.pointer (some ⟨w.heap.size + 1, 5, none⟩))) rfl (by kernel_rfl) (by kernel_rfl) (by kernel_rfl) (fun _ _ _ h => h) (Or.inl ⟨by rfl, ?_⟩) ht ?_
 ·intro W9 hSw
  go_simp
 try simp only [Act.put, List.setIfInBounds_toArray, List.set_cons_zero, List.set_cons_succ]
 refine wpAnyH_take (i := 1) (oi := ⟨some _, _, _, _, _, _⟩) (v := (.string ⟨vs.toArray⟩)) rfl (by kernel_rfl) (by kernel_rfl) (by kernel_rfl) (fun _ _ _ h => h) (Or.inl ⟨by rfl, ?_⟩) ht ?_
 ·intro W9 hSw
  obtain ⟨b0, b1, b2, b3, b4, b5, b6, b7⟩ := (HBV.out W9 hSw).eight
  have bl := (HBV.out W9 hSw).lt
  go_simp
 try simp only [Act.put, List.setIfInBounds_toArray, List.set_cons_zero, List.set_cons_succ]
 refine wpAnyH_take (i := 4) (oi := ⟨some _, _, _, _, _, _⟩) (v := (.pointer (some ⟨w.heap.size, 2, none⟩))) rfl (by kernel_rfl) (by kernel_rfl) (by kernel_rfl) (fun _ _ _ h => h) (Or.inl ⟨by rfl, ?_⟩) ht ?_
 ·intro W9 hSw
  go_simp
 try simp only [Act.put, List.setIfInBounds_toArray, List.set_cons_zero, List.set_cons_succ]
 refine wpAnyH_take (i := 5) (oi := ⟨some _, _, _, _, _, _⟩) (v := (.agg #[.bool n.neg, .string ⟨n.digits.toArray⟩, .int .i64 n.exp])) rfl (by kernel_rfl) (by kernel_rfl) (by kernel_rfl) (fun _ _ _ h => h) (Or.inl ⟨by rfl, ?_⟩) ht ?_
 ·intro W9 hSw
  obtain ⟨a0, a1, a2, a3, a4, a5, a6, a7⟩ := (HBK.out W9 hSw).eight
  have al := (HBK.out W9 hSw).lt
  go_simp
 try simp only [Act.put, List.setIfInBounds_toArray, List.set_cons_zero, List.set_cons_succ]
 refine wpAnyH_ready (rs := [2]) (by kernel_rfl) (by simp) ?_
 refine AllReadyH.cons (o := ⟨some _, _, _, _, _, _⟩) rfl (fun K hK => ?_) (AllReadyH.nil)
 go_simp
 refine (HCH.out _).mono ?_
 rintro e1 w1 ⟨rfl, rfl⟩
 go_wp2_with fail
 refine hK.out _ _ ht (fun ht => ?_)
 clear hK K
 try simp only [Act.put, List.setIfInBounds_toArray, List.set_cons_zero, List.set_cons_succ]
 refine wpAnyH_ready (rs := [3]) (by kernel_rfl) (by simp) ?_
 refine AllReadyH.cons (o := ⟨some _, _, _, _, _, _⟩) rfl (fun K hK => ?_) (AllReadyH.nil)
 go_simp
 refine (HO1.out _).mono ?_
 rintro e2 w2 ⟨rfl, hb2⟩
 have hb2 := ht.trans (hb2.mono ht.size)
 go_wp2_with fail
 refine hK.out _ _ hb2 (fun ht => ?_)
 clear hK K hb2
 try simp only [Act.put, List.setIfInBounds_toArray, List.set_cons_zero, List.set_cons_succ]
 refine wpAnyH_ready (rs := [6]) (by kernel_rfl) (by simp) ?_
 refine AllReadyH.cons (o := ⟨some _, _, _, _, _, _⟩) rfl (fun K hK => ?_) (AllReadyH.nil)
 go_simp
 refine (HM1.out _).mono ?_
 rintro e3 w3 ⟨rfl, hb3⟩
 have hb3 := ht.trans (hb3.mono ht.size)
 go_wp2_with fail
 refine hK.out _ _ hb3 (fun ht => ?_)
 clear hK K hb3
 try simp only [Act.put, List.setIfInBounds_toArray, List.set_cons_zero, List.set_cons_succ]
 refine wpAnyH_take (i := 7) (oi := ⟨some _, _, _, _, _, _⟩) (v := (.int .i64 tx)) rfl (by kernel_rfl) (by kernel_rfl) (by kernel_rfl) (fun _ _ _ h => h) (Or.inl ⟨by rfl, ?_⟩) ht ?_
 ·intro W9 hSw
  go_simp
 try simp only [Act.put, List.setIfInBounds_toArray, List.set_cons_zero, List.set_cons_succ]
 refine wpAnyH_done (by kernel_rfl) ?_ _
 have HW3 := Lib.hid ht
 clear ht HCH HO1 HM1
 go_upto_region 2 with (fail)
 refine wp_region_held_drew (S := fun W9 => Below w0.heap.size w0 W9) (by kernel_rfl) (show Below w0.heap.size w0 w3.drew from below_drewN HW3.out 1) (fun ht => ?_)
 generalize w3.drew = w4 at *
 refine wpAnyH_take (i := 0) (oi := ⟨some _, _, _, _, _, _⟩) (v := (.pointer (some ⟨w.heap.size + 1, 6, none⟩))) rfl (by kernel_rfl) (by kernel_rfl) (by kernel_rfl) (fun _ _ _ h => h) (Or.inl ⟨by rfl, ?_⟩) ht ?_
 ·intro W9 hSw
  go_simp
 try simp only [Act.put, List.setIfInBounds_toArray, List.set_cons_zero, List.set_cons_succ]
 refine wpAnyH_take (i := 1) (oi := ⟨some _, _, _, _, _, _⟩) (v := (.slice Av vl.length ev)) rfl (by kernel_rfl) (by kernel_rfl) (by kernel_rfl) (fun _ _ _ h => h) (Or.inl ⟨by rfl, ?_⟩) ht ?_
 ·intro W9 hSw
  obtain ⟨b0, b1, b2, b3, b4, b5, b6, b7⟩ := (HBV.out W9 hSw).eight
  have bl := (HBV.out W9 hSw).lt
  go_simp
 try simp only [Act.put, List.setIfInBounds_toArray, List.set_cons_zero, List.set_cons_succ]
 refine wpAnyH_take (i := 2) (oi := ⟨some _, _, _, _, _, _⟩) (v := (.int .i64 vl.length)) rfl (by kernel_rfl) (by kernel_rfl) (by kernel_rfl) (fun _ _ _ h => h) (Or.inl ⟨by rfl, ?_⟩) ht ?_
 ·intro W9 hSw
  go_simp
 try simp only [Act.put, List.setIfInBounds_toArray, List.set_cons_zero, List.set_cons_succ]
 refine wpAnyH_take (i := 4) (oi := ⟨some _, _, _, _, _, _⟩) (v := (.pointer (some ⟨w.heap.size, 2, none⟩))) rfl (by kernel_rfl) (by kernel_rfl) (by kernel_rfl) (fun _ _ _ h => h) (Or.inl ⟨by rfl, ?_⟩) ht ?_
 ·intro W9 hSw
  go_simp
 try simp only [Act.put, List.setIfInBounds_toArray, List.set_cons_zero, List.set_cons_succ]
 refine wpAnyH_take (i := 5) (oi := ⟨some _, _, _, _, _, _⟩) (v := (.agg #[.bool n.neg, .string ⟨n.digits.toArray⟩, .int .i64 n.exp])) rfl (by kernel_rfl) (by kernel_rfl) (by kernel_rfl) (fun _ _ _ h => h) (Or.inl ⟨by rfl, ?_⟩) ht ?_
 ·intro W9 hSw
  obtain ⟨a0, a1, a2, a3, a4, a5, a6, a7⟩ := (HBK.out W9 hSw).eight
  have al := (HBK.out W9 hSw).lt
  go_simp
 try simp only [Act.put, List.setIfInBounds_toArray, List.set_cons_zero, List.set_cons_succ]
 refine wpAnyH_ready (rs := [3]) (by kernel_rfl) (by simp) ?_
 refine AllReadyH.cons (o := ⟨some _, _, _, _, _, _⟩) rfl (fun K hK => ?_) (AllReadyH.nil)
 go_simp
 refine (HO2.out _).mono ?_
 rintro e5 w5 ⟨rfl, hb5⟩
 have hb5 := ht.trans (hb5.mono ht.size)
 go_wp2_with fail
 refine hK.out _ _ hb5 (fun ht => ?_)
 clear hK K hb5
 try simp only [Act.put, List.setIfInBounds_toArray, List.set_cons_zero, List.set_cons_succ]
 refine wpAnyH_ready (rs := [6]) (by kernel_rfl) (by simp) ?_
 refine AllReadyH.cons (o := ⟨some _, _, _, _, _, _⟩) rfl (fun K hK => ?_) (AllReadyH.nil)
 go_simp
 refine (HM2.out _).mono ?_
 rintro e6 w6 ⟨rfl, hb6⟩
 have hb6 := ht.trans (hb6.mono ht.size)
 go_wp2_with fail
 refine hK.out _ _ hb6 (fun ht => ?_)
 clear hK K hb6
 try simp only [Act.put, List.setIfInBounds_toArray, List.set_cons_zero, List.set_cons_succ]
 refine wpAnyH_take (i := 7) (oi := ⟨some _, _, _, _, _, _⟩) (v := (.int .i64 mn)) rfl (by kernel_rfl) (by kernel_rfl) (by kernel_rfl) (fun _ _ _ h => h) (Or.inl ⟨by rfl, ?_⟩) ht ?_
 ·intro W9 hSw
  go_simp
 try simp only [Act.put, List.setIfInBounds_toArray, List.set_cons_zero, List.set_cons_succ]
 refine wpAnyH_done (by kernel_rfl) ?_ _
 have HW6 := Lib.hid ht
 clear ht HO2 HM2 HW3
 obtain ⟨a0, a1, a2, a3, a4, a5, a6, a7⟩ := (HBK.out _ HW6.out).eight
 have al := (HBK.out _ HW6.out).lt
 obtain ⟨b0, b1, b2, b3, b4, b5, b6, b7⟩ := (HBV.out _ HW6.out).eight
 have bl := (HBV.out _ HW6.out).lt
 go_wp2_with fail
 refine (HM3.out _).mono ?_
 rintro e7 w7 ⟨rfl, hb7⟩
 have HW7 := Lib.hid (HW6.out.trans (hb7.mono HW6.out.size))
 clear hb7 HM3 HW6 a0 a1 a2 a3 a4 a5 a6 a7 al b0 b1 b2 b3 b4 b5 b6 b7 bl
 have HBB := Lib.hid (HB0.out.trans (HW7.out.mono HB0.out.size))
 obtain ⟨a0, a1, a2, a3, a4, a5, a6, a7⟩ := (HBK.out _ HW7.out).eight
 have al := (HBK.out _ HW7.out).lt
 obtain ⟨b0, b1, b2, b3, b4, b5, b6, b7⟩ := (HBV.out _ HW7.out).eight
 have bl := (HBV.out _ HW7.out).lt
 rcases HNM with rfl | rfl
 ·have HAM := Lib.hid (fun (W : World) (h : Below w.heap.size w W) => refAmong_any l A e (.mk vk vb vn vs vl vm) (.agg #[.int .i64 vk, .bool vb, .bool vn.neg, .string ⟨vn.digits.toArray⟩, .int .i64 vn.exp, .string ⟨vs.toArray⟩, .slice Av vl.length ev, .slice Bv vm.length dv]) W (HLK.out.keep (le_below h)) q1 HQ2.out (In.keep (le_below h) _ _ HXV.out))
  obtain ⟨am, ham⟩ : ∃ q, Ow.among l (.mk vk vb vn vs vl vm) = q := ⟨_, rfl⟩
  rw [ham] at HAM
  have HF := Lib.hid (show Ow.fails [101, 110, 117, 109] (.mk k b n s l m) (.mk vk vb vn vs vl vm) = !am by show (!Ow.among l (.mk vk vb vn vs vl vm)) = _; rw [ham])
  clear ham
  go_wp2_with fail
  refine (HAM.out _ HBB.out).mono ?_
  rintro e8 w8 ⟨rfl, hb8⟩
  have HB8 := Lib.hid (HBB.out.trans (hb8.mono HBB.out.size))
  clear hb8 HAM a0 a1 a2 a3 a4 a5 a6 a7 al b0 b1 b2 b3 b4 b5 b6 b7 bl
  go_wp2_with fail
  go_ret
  exact ⟨by rw [HF.out]; rfl, HB8.out⟩
 ·have HSA := Lib.hid (fun (W : World) (h : Below w.heap.size w W) => refSame_any (.mk k b n s l m) (.mk vk vb vn vs vl vm) (.agg #[.int .i64 k, .bool b, .bool n.neg, .string ⟨n.digits.toArray⟩, .int .i64 n.exp, .string ⟨s.toArray⟩, .slice A l.length e, .slice B m.length d]) (.agg #[.int .i64 vk, .bool vb, .bool vn.neg, .string ⟨vn.digits.toArray⟩, .int .i64 vn.exp, .string ⟨vs.toArray⟩, .slice Av vl.length ev, .slice Bv vm.length dv]) W (In.keep (le_below h) _ _ HXK.out) (In.keep (le_below h) _ _ HXV.out))
  obtain ⟨am, ham⟩ : ∃ q, (Vl.mk k b n s l m).same (.mk vk vb vn vs vl vm) = q := ⟨_, rfl⟩
  rw [ham] at HSA
  have HF := Lib.hid (show Ow.fails [99, 111, 110, 115, 116] (.mk k b n s l m) (.mk vk vb vn vs vl vm) = !am by show (!(Vl.mk k b n s l m).same (.mk vk vb vn vs vl vm)) = _; rw [ham])
  clear ham
  go_wp2_with fail
  refine (HSA.out _ HBB.out).mono ?_
  rintro e8 w8 ⟨rfl, hb8⟩
  have HB8 := Lib.hid (HBB.out.trans (hb8.mono HBB.out.size))
  clear hb8 HSA a0 a1 a2 a3 a4 a5 a6 a7 al b0 b1 b2 b3 b4 b5 b6 b7 bl
  go_wp2_with fail
  go_ret
  exact ⟨by rw [HF.out]; rfl, HB8.out⟩

set_option linter.unusedVariables false in
set_option linter.unusedSimpArgs false in
set_option maxRecDepth 100000 in
set_option maxHeartbeats 8000000 in
theorem refFails_none (nm : List UInt8) (kv v : Vl) (xk xv : Value) (w : World) (hmk : kv.may = true) (hmv : v.may = true) (hsz : v.size ≤ 1000000) (hsl : v.slim 1000000) (hxk : kv.In w.cell? xk) (hxv : v.In w.cell? xv) :
  (∀ x ∈ Ow.keys14.map (·.1), nm ≠ x) →
  Calls Tryz.prog 16 #[.string ⟨nm.toArray⟩, xk, xv] w fun e w' => e = .returned (.bool (Ow.fails nm kv v)) ∧ Below w.heap.size w w' := by
 intro HNM
 obtain ⟨k, b, n, s, l, m⟩ := kv
 obtain ⟨vk, vb, vn, vs, vl, vm⟩ := v
 obtain ⟨A, e, B, d, rfl, q1, q2, q3, q4, q5, q6⟩ := In.form hxk
 obtain ⟨Av, ev, Bv, dv, rfl, r1, r2, r3, r4, r5, r6⟩ := In.form hxv
 have HXK := Lib.hid hxk
 have HXV := Lib.hid hxv
 have HLK := Lib.hid (show SlL w.cell? A l from q5)
 have HLV := Lib.hid (show SlL w.cell? Av vl from r5)
 have HQ2 := Lib.hid q2
 have HR2 := Lib.hid r2
 have hsk := (mayNum_May (may_own hmk).2.2.2.2.2.2.2.1).small
 have hsv := (mayNum_May (may_own hmv).2.2.2.2.2.2.2.1).small
 have hvl : vl.length ≤ 1000000 := by
  have h : vl.length ≤ sizeL vl := sizeL_len vl
  simp only [Vl.size] at hsz; omega
 have hvs : vs.length ≤ 1000000 := by simp only [Vl.slim] at hsl; exact hsl.2.1
 unfold maxLen at q2 r2
 have HB0 := Lib.hid (show Below w.heap.size w ((w.alloc (.cells #[.int .i64 k, .bool b, .bool n.neg, .string ⟨n.digits.toArray⟩, .int .i64 n.exp, .string ⟨s.toArray⟩, .slice A l.length e, .slice B m.length d] 31)).alloc (.cells #[.int .i64 vk, .bool vb, .bool vn.neg, .string ⟨vn.digits.toArray⟩, .int .i64 vn.exp, .string ⟨vs.toArray⟩, .slice Av vl.length ev, .slice Bv vm.length dv] 31)) from ((Below.refl _ _).alloc (Nat.le_refl _) _).alloc (by simp) _)
 have HK0 := Lib.hid (show Blk ((w.alloc (.cells #[.int .i64 k, .bool b, .bool n.neg, .string ⟨n.digits.toArray⟩, .int .i64 n.exp, .string ⟨s.toArray⟩, .slice A l.length e, .slice B m.length d] 31)).alloc (.cells #[.int .i64 vk, .bool vb, .bool vn.neg, .string ⟨vn.digits.toArray⟩, .int .i64 vn.exp, .string ⟨vs.toArray⟩, .slice Av vl.length ev, .slice Bv vm.length dv] 31)) w.heap.size 31 #[.int .i64 k, .bool b, .bool n.neg, .string ⟨n.digits.toArray⟩, .int .i64 n.exp, .string ⟨s.toArray⟩, .slice A l.length e, .slice B m.length d] from (Blk.new w 31 _).alloc _)
 have HV0 := Lib.hid (show Blk ((w.alloc (.cells #[.int .i64 k, .bool b, .bool n.neg, .string ⟨n.digits.toArray⟩, .int .i64 n.exp, .string ⟨s.toArray⟩, .slice A l.length e, .slice B m.length d] 31)).alloc (.cells #[.int .i64 vk, .bool vb, .bool vn.neg, .string ⟨vn.digits.toArray⟩, .int .i64 vn.exp, .string ⟨vs.toArray⟩, .slice Av vl.length ev, .slice Bv vm.length dv] 31)) (w.heap.size + 1) 31 #[.int .i64 vk, .bool vb, .bool vn.neg, .string ⟨vn.digits.toArray⟩, .int .i64 vn.exp, .string ⟨vs.toArray⟩, .slice Av vl.length ev, .slice Bv vm.length dv] from Blk.new2 w (.cells #[.int .i64 k, .bool b, .bool n.neg, .string ⟨n.digits.toArray⟩, .int .i64 n.exp, .string ⟨s.toArray⟩, .slice A l.length e, .slice B m.length d] 31) 31 _)
 have hmk2 := hmk
 have hmv2 := hmv
 clear hxk hxv q3 q4 q5 q6 r3 r4 r5 r6 hsz hsl hmk hmv
 go_enter Tryz.func16, Tryz.ntmps16
 go_upto_region 1 with (fail)
 generalize (w.alloc (.cells #[.int .i64 k, .bool b, .bool n.neg, .string ⟨n.digits.toArray⟩, .int .i64 n.exp, .string ⟨s.toArray⟩, .slice A l.length e, .slice B m.length d] 31)).alloc (.cells #[.int .i64 vk, .bool vb, .bool vn.neg, .string ⟨vn.digits.toArray⟩, .int .i64 vn.exp, .string ⟨vs.toArray⟩, .slice Av vl.length ev, .slice Bv vm.length dv] 31) = w0 at *
 have HBK := Lib.hid (fun (W : World) (h : Below w0.heap.size w0 W) => HK0.out.on h)
 have HBV := Lib.hid (fun (W : World) (h : Below w0.heap.size w0 W) => HV0.out.on h)
 have HCH := Lib.hid (fun W => refChars_any ⟨vs.toArray⟩ W (by rw [Lib.size_mk]; omega))
 obtain ⟨ct, hct⟩ : ∃ ct, Ow.chars vs = ct := ⟨_, rfl⟩
 have hctl : ct ≤ 1000000 := by rw [← hct]; exact Nat.le_trans (Ow.chars_le vs) hvs
 obtain ⟨c1, hc1⟩ : ∃ c, Nm.count (ct : Int) = c := ⟨_, rfl⟩
 have hcm1 : Nm.Small c1 := by rw [← hc1]; exact (Nm.countMay14 ct (by omega)).small
 obtain ⟨c2, hc2⟩ : ∃ c, Nm.count (vl.length : Int) = c := ⟨_, rfl⟩
 have hcm2 : Nm.Small c2 := by rw [← hc2]; exact (Nm.countMay14 vl.length (by omega)).small
 have HO1 := Lib.hid (fun W => refOf_any (ct : Int) W (by omega) (by omega))
 have HO2 := Lib.hid (fun W => refOf_any (vl.length : Int) W (by omega) (by omega))
 rw [show (Nm.parse (Lib.itoa (ct : Int))).1 = c1 from hc1] at HO1
 rw [show (Nm.parse (Lib.itoa (vl.length : Int))).1 = c2 from hc2] at HO2
 unfold numV at HO1 HO2
 rw [show (⟨vs.toArray⟩ : ByteArray).data.toList = vs from rfl, hct] at HCH
 have HM1 := Lib.hid (fun W => refCmp_any c1.neg c1.digits c1.exp n.neg n.digits n.exp W hcm1 hsk)
 have HM2 := Lib.hid (fun W => refCmp_any c2.neg c2.digits c2.exp n.neg n.digits n.exp W hcm2 hsk)
 have HM3 := Lib.hid (fun W => refCmp_any vn.neg vn.digits vn.exp n.neg n.digits n.exp W hsv hsk)
 obtain ⟨tx, htx⟩ : ∃ q, Nm.refCmp c1 n = q := ⟨_, rfl⟩
 obtain ⟨mn, hmn⟩ : ∃ q, Nm.refCmp c2 n = q := ⟨_, rfl⟩
 obtain ⟨sz, hsz⟩ : ∃ q, Nm.refCmp vn n = q := ⟨_, rfl⟩
 rw [show Nm.refCmp ⟨c1.neg, c1.digits, c1.exp⟩ ⟨n.neg, n.digits, n.exp⟩ = tx from htx] at HM1
 rw [show Nm.refCmp ⟨c2.neg, c2.digits, c2.exp⟩ ⟨n.neg, n.digits, n.exp⟩ = mn from hmn] at HM2
 rw [show Nm.refCmp ⟨vn.neg, vn.digits, vn.exp⟩ ⟨n.neg, n.digits, n.exp⟩ = sz from hsz] at HM3
 have HTX := Lib.hid (show Nm.refCmp (Nm.count (Ow.chars vs)) n = tx by rw [hct, hc1, htx])
 have HMN := Lib.hid (show Nm.refCmp (Nm.count vl.length) n = mn by rw [hc2, hmn])
 have HSZ := Lib.hid hsz
 clear hct hc1 hc2 hcm1 hcm2 htx hmn hsz hsk hsv
 refine wp_region_held_drew (S := fun W9 => Below w0.heap.size w0 W9) (by kernel_rfl) (show Below w0.heap.size w0 w0.drew from below_drewN (Below.refl _ _) 1) (fun ht => ?_)
 generalize w0.drew = w0d at *
 refine wpAnyH_take (i := 0) (oi := ⟨some _, _, _, _, _, _⟩) (v := (.pointer (some ⟨w.heap.size + 1, 5, none⟩))) rfl (by kernel_rfl) (by kernel_rfl) (by kernel_rfl) (fun _ _ _ h => h) (Or.inl ⟨by rfl, ?_⟩) ht ?_
 ·intro W9 hSw
  go_simp
 try simp only [Act.put, List.setIfInBounds_toArray, List.set_cons_zero, List.set_cons_succ]
 refine wpAnyH_take (i := 1) (oi := ⟨some _, _, _, _, _, _⟩) (v := (.string ⟨vs.toArray⟩)) rfl (by kernel_rfl) (by kernel_rfl) (by kernel_rfl) (fun _ _ _ h => h) (Or.inl ⟨by rfl, ?_⟩) ht ?_
 ·intro W9 hSw
  obtain ⟨b0, b1, b2, b3, b4, b5, b6, b7⟩ := (HBV.out W9 hSw).eight
  have bl := (HBV.out W9 hSw).lt
  go_simp
 try simp only [Act.put, List.setIfInBounds_toArray, List.set_cons_zero, List.set_cons_succ]
 refine wpAnyH_take (i := 4) (oi := ⟨some _, _, _, _, _, _⟩) (v := (.pointer (some ⟨w.heap.size, 2, none⟩))) rfl (by kernel_rfl) (by kernel_rfl) (by kernel_rfl) (fun _ _ _ h => h) (Or.inl ⟨by rfl, ?_⟩) ht ?_
 ·intro W9 hSw
  go_simp
 try simp only [Act.put, List.setIfInBounds_toArray, List.set_cons_zero, List.set_cons_succ]
 refine wpAnyH_take (i := 5) (oi := ⟨some _, _, _, _, _, _⟩) (v := (.agg #[.bool n.neg, .string ⟨n.digits.toArray⟩, .int .i64 n.exp])) rfl (by kernel_rfl) (by kernel_rfl) (by kernel_rfl) (fun _ _ _ h => h) (Or.inl ⟨by rfl, ?_⟩) ht ?_
 ·intro W9 hSw
  obtain ⟨a0, a1, a2, a3, a4, a5, a6, a7⟩ := (HBK.out W9 hSw).eight
  have al := (HBK.out W9 hSw).lt
  go_simp
 try simp only [Act.put, List.setIfInBounds_toArray, List.set_cons_zero, List.set_cons_succ]
 refine wpAnyH_ready (rs := [2]) (by kernel_rfl) (by simp) ?_
 refine AllReadyH.cons (o := ⟨some _, _, _, _, _, _⟩) rfl (fun K hK => ?_) (AllReadyH.nil)
 go_simp
 refine (HCH.out _).mono ?_
 rintro e1 w1 ⟨rfl, rfl⟩
 go_wp2_with fail
 refine hK.out _ _ ht (fun ht => ?_)
 clear hK K
 try simp only [Act.put, List.setIfInBounds_toArray, List.set_cons_zero, List.set_cons_succ]
 refine wpAnyH_ready (rs := [3]) (by kernel_rfl) (by simp) ?_
 refine AllReadyH.cons (o := ⟨some _, _, _, _, _, _⟩) rfl (fun K hK => ?_) (AllReadyH.nil)
 go_simp
 refine (HO1.out _).mono ?_
 rintro e2 w2 ⟨rfl, hb2⟩
 have hb2 := ht.trans (hb2.mono ht.size)
 go_wp2_with fail
 refine hK.out _ _ hb2 (fun ht => ?_)
 clear hK K hb2
 try simp only [Act.put, List.setIfInBounds_toArray, List.set_cons_zero, List.set_cons_succ]
 refine wpAnyH_ready (rs := [6]) (by kernel_rfl) (by simp) ?_
 refine AllReadyH.cons (o := ⟨some _, _, _, _, _, _⟩) rfl (fun K hK => ?_) (AllReadyH.nil)
 go_simp
 refine (HM1.out _).mono ?_
 rintro e3 w3 ⟨rfl, hb3⟩
 have hb3 := ht.trans (hb3.mono ht.size)
 go_wp2_with fail
 refine hK.out _ _ hb3 (fun ht => ?_)
 clear hK K hb3
 try simp only [Act.put, List.setIfInBounds_toArray, List.set_cons_zero, List.set_cons_succ]
 refine wpAnyH_take (i := 7) (oi := ⟨some _, _, _, _, _, _⟩) (v := (.int .i64 tx)) rfl (by kernel_rfl) (by kernel_rfl) (by kernel_rfl) (fun _ _ _ h => h) (Or.inl ⟨by rfl, ?_⟩) ht ?_
 ·intro W9 hSw
  go_simp
 try simp only [Act.put, List.setIfInBounds_toArray, List.set_cons_zero, List.set_cons_succ]
 refine wpAnyH_done (by kernel_rfl) ?_ _
 have HW3 := Lib.hid ht
 clear ht HCH HO1 HM1
 go_upto_region 2 with (fail)
 refine wp_region_held_drew (S := fun W9 => Below w0.heap.size w0 W9) (by kernel_rfl) (show Below w0.heap.size w0 w3.drew from below_drewN HW3.out 1) (fun ht => ?_)
 generalize w3.drew = w4 at *
 refine wpAnyH_take (i := 0) (oi := ⟨some _, _, _, _, _, _⟩) (v := (.pointer (some ⟨w.heap.size + 1, 6, none⟩))) rfl (by kernel_rfl) (by kernel_rfl) (by kernel_rfl) (fun _ _ _ h => h) (Or.inl ⟨by rfl, ?_⟩) ht ?_
 ·intro W9 hSw
  go_simp
 try simp only [Act.put, List.setIfInBounds_toArray, List.set_cons_zero, List.set_cons_succ]
 refine wpAnyH_take (i := 1) (oi := ⟨some _, _, _, _, _, _⟩) (v := (.slice Av vl.length ev)) rfl (by kernel_rfl) (by kernel_rfl) (by kernel_rfl) (fun _ _ _ h => h) (Or.inl ⟨by rfl, ?_⟩) ht ?_
 ·intro W9 hSw
  obtain ⟨b0, b1, b2, b3, b4, b5, b6, b7⟩ := (HBV.out W9 hSw).eight
  have bl := (HBV.out W9 hSw).lt
  go_simp
 try simp only [Act.put, List.setIfInBounds_toArray, List.set_cons_zero, List.set_cons_succ]
 refine wpAnyH_take (i := 2) (oi := ⟨some _, _, _, _, _, _⟩) (v := (.int .i64 vl.length)) rfl (by kernel_rfl) (by kernel_rfl) (by kernel_rfl) (fun _ _ _ h => h) (Or.inl ⟨by rfl, ?_⟩) ht ?_
 ·intro W9 hSw
  go_simp
 try simp only [Act.put, List.setIfInBounds_toArray, List.set_cons_zero, List.set_cons_succ]
 refine wpAnyH_take (i := 4) (oi := ⟨some _, _, _, _, _, _⟩) (v := (.pointer (some ⟨w.heap.size, 2, none⟩))) rfl (by kernel_rfl) (by kernel_rfl) (by kernel_rfl) (fun _ _ _ h => h) (Or.inl ⟨by rfl, ?_⟩) ht ?_
 ·intro W9 hSw
  go_simp
 try simp only [Act.put, List.setIfInBounds_toArray, List.set_cons_zero, List.set_cons_succ]
 refine wpAnyH_take (i := 5) (oi := ⟨some _, _, _, _, _, _⟩) (v := (.agg #[.bool n.neg, .string ⟨n.digits.toArray⟩, .int .i64 n.exp])) rfl (by kernel_rfl) (by kernel_rfl) (by kernel_rfl) (fun _ _ _ h => h) (Or.inl ⟨by rfl, ?_⟩) ht ?_
 ·intro W9 hSw
  obtain ⟨a0, a1, a2, a3, a4, a5, a6, a7⟩ := (HBK.out W9 hSw).eight
  have al := (HBK.out W9 hSw).lt
  go_simp
 try simp only [Act.put, List.setIfInBounds_toArray, List.set_cons_zero, List.set_cons_succ]
 refine wpAnyH_ready (rs := [3]) (by kernel_rfl) (by simp) ?_
 refine AllReadyH.cons (o := ⟨some _, _, _, _, _, _⟩) rfl (fun K hK => ?_) (AllReadyH.nil)
 go_simp
 refine (HO2.out _).mono ?_
 rintro e5 w5 ⟨rfl, hb5⟩
 have hb5 := ht.trans (hb5.mono ht.size)
 go_wp2_with fail
 refine hK.out _ _ hb5 (fun ht => ?_)
 clear hK K hb5
 try simp only [Act.put, List.setIfInBounds_toArray, List.set_cons_zero, List.set_cons_succ]
 refine wpAnyH_ready (rs := [6]) (by kernel_rfl) (by simp) ?_
 refine AllReadyH.cons (o := ⟨some _, _, _, _, _, _⟩) rfl (fun K hK => ?_) (AllReadyH.nil)
 go_simp
 refine (HM2.out _).mono ?_
 rintro e6 w6 ⟨rfl, hb6⟩
 have hb6 := ht.trans (hb6.mono ht.size)
 go_wp2_with fail
 refine hK.out _ _ hb6 (fun ht => ?_)
 clear hK K hb6
 try simp only [Act.put, List.setIfInBounds_toArray, List.set_cons_zero, List.set_cons_succ]
 refine wpAnyH_take (i := 7) (oi := ⟨some _, _, _, _, _, _⟩) (v := (.int .i64 mn)) rfl (by kernel_rfl) (by kernel_rfl) (by kernel_rfl) (fun _ _ _ h => h) (Or.inl ⟨by rfl, ?_⟩) ht ?_
 ·intro W9 hSw
  go_simp
 try simp only [Act.put, List.setIfInBounds_toArray, List.set_cons_zero, List.set_cons_succ]
 refine wpAnyH_done (by kernel_rfl) ?_ _
 have HW6 := Lib.hid ht
 clear ht HO2 HM2 HW3
 obtain ⟨a0, a1, a2, a3, a4, a5, a6, a7⟩ := (HBK.out _ HW6.out).eight
 have al := (HBK.out _ HW6.out).lt
 obtain ⟨b0, b1, b2, b3, b4, b5, b6, b7⟩ := (HBV.out _ HW6.out).eight
 have bl := (HBV.out _ HW6.out).lt
 go_wp2_with fail
 refine (HM3.out _).mono ?_
 rintro e7 w7 ⟨rfl, hb7⟩
 have HW7 := Lib.hid (HW6.out.trans (hb7.mono HW6.out.size))
 clear hb7 HM3 HW6 a0 a1 a2 a3 a4 a5 a6 a7 al b0 b1 b2 b3 b4 b5 b6 b7 bl
 have HBB := Lib.hid (HB0.out.trans (HW7.out.mono HB0.out.size))
 obtain ⟨a0, a1, a2, a3, a4, a5, a6, a7⟩ := (HBK.out _ HW7.out).eight
 have al := (HBK.out _ HW7.out).lt
 obtain ⟨b0, b1, b2, b3, b4, b5, b6, b7⟩ := (HBV.out _ HW7.out).eight
 have bl := (HBV.out _ HW7.out).lt
 have n0 : (nm == [116, 121, 112, 101]) = false := by rw [beq_eq_false_iff_ne]; exact HNM _ (by decide)
 have n1 : (nm == [101, 110, 117, 109]) = false := by rw [beq_eq_false_iff_ne]; exact HNM _ (by decide)
 have n2 : (nm == [99, 111, 110, 115, 116]) = false := by rw [beq_eq_false_iff_ne]; exact HNM _ (by decide)
 have n3 : (nm == [109, 105, 110, 105, 109, 117, 109]) = false := by rw [beq_eq_false_iff_ne]; exact HNM _ (by decide)
 have n4 : (nm == [109, 97, 120, 105, 109, 117, 109]) = false := by rw [beq_eq_false_iff_ne]; exact HNM _ (by decide)
 have n5 : (nm == [109, 105, 110, 76, 101, 110, 103, 116, 104]) = false := by rw [beq_eq_false_iff_ne]; exact HNM _ (by decide)
 have n6 : (nm == [109, 97, 120, 76, 101, 110, 103, 116, 104]) = false := by rw [beq_eq_false_iff_ne]; exact HNM _ (by decide)
 have n7 : (nm == [109, 105, 110, 73, 116, 101, 109, 115]) = false := by rw [beq_eq_false_iff_ne]; exact HNM _ (by decide)
 have n8 : (nm == [109, 97, 120, 73, 116, 101, 109, 115]) = false := by rw [beq_eq_false_iff_ne]; exact HNM _ (by decide)
 have n9 : (nm == [117, 110, 105, 113, 117, 101, 73, 116, 101, 109, 115]) = false := by rw [beq_eq_false_iff_ne]; exact HNM _ (by decide)
 have n10 : (nm == [114, 101, 113, 117, 105, 114, 101, 100]) = false := by rw [beq_eq_false_iff_ne]; exact HNM _ (by decide)
 have HF := Lib.hid (show Ow.fails nm (.mk k b n s l m) (.mk vk vb vn vs vl vm) = false by rw [Ow.fails, Ow.kw14_no HNM]; rfl)
 clear HNM
 go_wp2_with fail
 go_ret
 exact ⟨by rw [HF.out]; rfl, HBB.out⟩

end Go.Proofs.YtolkfgikomminaaGreatDoor


