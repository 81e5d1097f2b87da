/- Cb: Cb Cd Ce, in one text. -/
import Derived.Test.YtolkfgikomminaaGreatDoorCa
import Derived.Test.YtolkfgikomminaaGreatDoorJd
import Derived.Test.YtolkfgikomminaaGreatDoorJg
import Derived.Test.YtolkfgikomminaaGreatDoorMo
import Derived.BigQuiet
import Derived.Deep.AppendLies
import Derived.Deep.RegionHeld3
namespace Go.Proofs.YtolkfgikomminaaGreatDoor
open Go.RowKit Js

theorem refSingle_any (nm : List UInt8) (w : World) : Calls Tryz.prog 68 #[.string ⟨nm.toArray⟩] w fun e w' => e = .returned (.bool (Sh.single nm)) ∧ w' = w := by
 by_cases h1 : nm = [105, 116, 101, 109, 115]
 ·subst h1
  go_enter Tryz.func68, Tryz.ntmps68
  go_wp2_with fail
  go_ret
  exact ⟨by kernel_rfl, rfl⟩
 by_cases h2 : nm = [97, 100, 100, 105, 116, 105, 111, 110, 97, 108, 80, 114, 111, 112, 101, 114, 116, 105, 101, 115]
 ·subst h2
  go_enter Tryz.func68, Tryz.ntmps68
  go_wp2_with fail
  go_ret
  exact ⟨by kernel_rfl, rfl⟩
 by_cases h3 : nm = [110, 111, 116]
 ·subst h3
  go_enter Tryz.func68, Tryz.ntmps68
  go_wp2_with fail
  go_ret
  exact ⟨by kernel_rfl, rfl⟩
 have HN := Lib.hid (show Sh.single nm = false from decide_eq_false (Sh.kw_only [[105, 116, 101, 109, 115], [97, 100, 100, 105, 116, 105, 111, 110, 97, 108, 80, 114, 111, 112, 101, 114, 116, 105, 101, 115], [110, 111, 116]] (by decide) (by simp [h1, h2, h3]) (by decide)))
 have e1 : (nm == [105, 116, 101, 109, 115]) = false := by simpa using h1
 have e2 : (nm == [97, 100, 100, 105, 116, 105, 111, 110, 97, 108, 80, 114, 111, 112, 101, 114, 116, 105, 101, 115]) = false := by simpa using h2
 have e3 : (nm == [110, 111, 116]) = false := by simpa using h3
 clear h1 h2 h3
 go_enter Tryz.func68, Tryz.ntmps68
 go_wp2_with fail
 go_ret
 exact ⟨by rw [HN.out]; rfl, rfl⟩

set_option linter.unusedVariables false in
set_option linter.unusedSimpArgs false in
set_option maxRecDepth 100000 in
set_option maxHeartbeats 2000000 in
theorem refSchema_any (v : Vl) (x : Value) (w : World) (hx : v.In w.cell? x) : Calls Tryz.prog 36 #[x] w fun e w' => e = .returned (.bool (Sh.isSch v)) ∧ Below w.heap.size w w' := by
 obtain ⟨k, b, n, s, l, m⟩ := v
 obtain ⟨A, e, B, d, rfl, -, -, -, -, -, -⟩ := In.form hx
 have HB := Lib.hid ((Below.refl w.heap.size w).alloc (Nat.le_refl _) (.cells #[.int .i64 k, .bool b, .bool n.neg, .string ⟨n.digits.toArray⟩, .int .i64 n.exp, .string ⟨s.toArray⟩, .slice A l.length e, .slice B m.length d] 31))
 clear hx
 by_cases h1 : k = 1
 ·have t1 : (k == 1) = true := by simpa using h1
  have HS := Lib.hid (show Sh.isSch (.mk k b n s l m) = true by simp [Sh.isSch, Sh.kindOf, h1])
  clear h1
  go_enter Tryz.func36, Tryz.ntmps36
  go_wp2_with fail
  go_ret
  exact ⟨by rw [HS.out]; rfl, HB.out⟩
 ·have t1 : (k == 1) = false := by simpa using h1
  have HS := Lib.hid (show Sh.isSch (.mk k b n s l m) = decide (k = 5) from (congrArg (· || decide (k = 5)) (decide_eq_false h1)).trans (Bool.false_or _))
  clear h1
  by_cases h5 : k = 5
  ·have t5 : (k == 5) = true := by simpa using h5
   have HD := Lib.hid (show decide (k = 5) = true from decide_eq_true h5)
   clear h5
   go_enter Tryz.func36, Tryz.ntmps36
   go_wp2_with fail
   go_ret
   exact ⟨by rw [HS.out, HD.out]; rfl, HB.out⟩
  ·have t5 : (k == 5) = false := by simpa using h5
   have HD := Lib.hid (show decide (k = 5) = false from decide_eq_false h5)
   clear h5
   go_enter Tryz.func36, Tryz.ntmps36
   go_wp2_with fail
   go_ret
   exact ⟨by rw [HS.out, HD.out]; rfl, HB.out⟩

set_option linter.unusedVariables false in
set_option linter.unusedSimpArgs false in
set_option maxRecDepth 100000 in
set_option maxHeartbeats 2000000 in
theorem refTyped_any (v : Vl) (x : Value) (w : World) (hx : v.In w.cell? x) : Calls Tryz.prog 91 #[x] w fun e w' => e = .returned (.bool (Sh.isName v)) ∧ Below w.heap.size w w' := by
 obtain ⟨k, b, n, s, l, m⟩ := v
 obtain ⟨A, e, B, d, rfl, -, -, -, -, -, -⟩ := In.form hx
 have HY := Lib.hid (fun j hj h3 he => Sh.isName_yes (k := k) (b := b) (n := n) (s := s) (l := l) (m := m) (j := j) hj h3 he)
 have HNO := Lib.hid (fun h => Sh.isName_no (k := k) (b := b) (n := n) (s := s) (l := l) (m := m) h)
 have HB0 := Lib.hid (show Boxed w k b n.neg n.digits n.exp s (.slice A l.length e) (.slice B m.length d) ((w.alloc (.cells #[.int .i64 k, .bool b, .bool n.neg, .string ⟨n.digits.toArray⟩, .int .i64 n.exp, .string ⟨s.toArray⟩, .slice A l.length e, .slice B m.length d] 31)).alloc (.cells #[.string ⟨#[110, 117, 108, 108]⟩, .string ⟨#[98, 111, 111, 108, 101, 97, 110]⟩, .string ⟨#[110, 117, 109, 98, 101, 114]⟩, .string ⟨#[105, 110, 116, 101, 103, 101, 114]⟩, .string ⟨#[115, 116, 114, 105, 110, 103]⟩, .string ⟨#[97, 114, 114, 97, 121]⟩, .string ⟨#[111, 98, 106, 101, 99, 116]⟩] 9)) from
  Boxed.start.next ((Below.refl _ _).alloc (Nat.le_refl _) _))
 have HN0 := Lib.hid (show ∀ p (hp : p < Sh.typeNames.length), ((w.alloc (.cells #[.int .i64 k, .bool b, .bool n.neg, .string ⟨n.digits.toArray⟩, .int .i64 n.exp, .string ⟨s.toArray⟩, .slice A l.length e, .slice B m.length d] 31)).alloc (.cells #[.string ⟨#[110, 117, 108, 108]⟩, .string ⟨#[98, 111, 111, 108, 101, 97, 110]⟩, .string ⟨#[110, 117, 109, 98, 101, 114]⟩, .string ⟨#[105, 110, 116, 101, 103, 101, 114]⟩, .string ⟨#[115, 116, 114, 105, 110, 103]⟩, .string ⟨#[97, 114, 114, 97, 121]⟩, .string ⟨#[111, 98, 106, 101, 99, 116]⟩] 9)).cell? ⟨w.heap.size + 1, p, none⟩ = some (.string ⟨(Sh.typeNames[p]'hp).toArray⟩) from fun p hp => by
  rw [(Blk.new2 w _ 9 #[.string ⟨#[110, 117, 108, 108]⟩, .string ⟨#[98, 111, 111, 108, 101, 97, 110]⟩, .string ⟨#[110, 117, 109, 98, 101, 114]⟩, .string ⟨#[105, 110, 116, 101, 103, 101, 114]⟩, .string ⟨#[115, 116, 114, 105, 110, 103]⟩, .string ⟨#[97, 114, 114, 97, 121]⟩, .string ⟨#[111, 98, 106, 101, 99, 116]⟩]).cell p]
  have h7 : p < 7 := hp
  rcases (show p = 0 ∨ p = 1 ∨ p = 2 ∨ p = 3 ∨ p = 4 ∨ p = 5 ∨ p = 6 by omega) with rfl | rfl | rfl | rfl | rfl | rfl | rfl <;> rfl)
 clear hx
 go_enter Tryz.func91, Tryz.ntmps91
 go_wp2_with fail
 go_loopw [4] (fun i wr => ∃ j : Nat, j ≤ 7 ∧ i = .int .i64 j ∧ Boxed w k b n.neg n.digits n.exp s (.slice A l.length e) (.slice B m.length d) wr ∧ (∀ p (hp : p < Sh.typeNames.length), wr.cell? ⟨w.heap.size + 1, p, none⟩ = some (.string ⟨(Sh.typeNames[p]'hp).toArray⟩)) ∧ ∀ p (hp : p < Sh.typeNames.length), p < j → ¬ (k = 3 ∧ s = Sh.typeNames[p]'hp)) (fun i _ => 7 - (intOf i).toNat)
 case atStart => exact ⟨0, by omega, rfl, HB0.out, HN0.out, fun p _ h => absurd h (Nat.not_lt_zero _)⟩
 case round =>
  obtain ⟨j, hj, rfl, hW, hN, hno⟩ := hrel
  have HW := Lib.hid hW
  have HN := Lib.hid hN
  have HX := Lib.hid hno
  obtain ⟨f0, f1, f2, f3, f4, f5, f6, f7⟩ := hW.cells
  clear hW hN hno HB0 HN0
  by_cases hlt : j < 7
  ·have hc := HN.out j hlt
   have HYJ := Lib.hid (HY.out j hlt)
   have hgl := World.block_lt_of_cell? _ _ hc
   have HNX := Lib.hid (show ¬ (k = 3 ∧ s = Sh.typeNames[j]'hlt) → ∀ p (hp : p < Sh.typeNames.length), p < j + 1 → ¬ (k = 3 ∧ s = Sh.typeNames[p]'hp) from fun h p hp hpj => by
    by_cases e : p = j
    ·subst e; exact h
    ·exact HX.out p hp (by omega))
   have hj7 : (j : Int) < 7 := by omega
   generalize Sh.typeNames[j]'hlt = t at *
   by_cases hk : k = 3
   ·have t3 : (k == 3) = true := by simpa using hk
    by_cases hs : s = t
    ·have hsb : (s == t) = true := by simpa using hs
     have HF := Lib.hid (HYJ.out hk hs)
     clear hs hk
     go_upto_region 5 with (fail)
     go_quiet (fail)
     go_wp2_with fail
     go_ret
     exact ⟨by rw [HF.out]; rfl, below_drewN HW.out.below _⟩
    ·have hsb : (s == t) = false := by simpa using hs
     have HF := Lib.hid (HNX.out (fun h => hs h.2))
     clear hs hk
     go_upto_region 5 with (fail)
     go_quiet (fail)
     go_wp2_with fail
     go_roundw
     case rel => exact ⟨j + 1, by omega, by go_num, HW.out.next (below_drewN (Below.refl _ _) _), HN.out, HF.out⟩
     case measure => simp [intOf]; omega
   ·have t3 : (k == 3) = false := by simpa using hk
    have HF := Lib.hid (HNX.out (fun h => hk h.1))
    clear hk
    go_upto_region 5 with (fail)
    go_quiet (fail)
    go_wp2_with fail
    go_roundw
    case rel => exact ⟨j + 1, by omega, by go_num, HW.out.next (below_drewN (Below.refl _ _) _), HN.out, HF.out⟩
    case measure => simp [intOf]; omega
  ·obtain rfl : j = 7 := by omega
   have HF := Lib.hid (HNO.out (fun p hp => HX.out p hp hp))
   go_wp2_with fail
   go_ret
   exact ⟨by rw [HF.out]; rfl, HW.out.below⟩

theorem el_parts {c : Cl} {A : Option Addr} {l : List Vl} (h : SlL c A l) {j : Nat} {u : Vl} (hj : l[j]? = some u) : ∃ (g o : Nat) (k : Int) (b : Bool) (n : Nm.Num) (s : List UInt8) (l1 : List Vl) (m1 : List Js.Mem) (A1 : Option Addr) (e1 : Nat) (B1 : Option Addr) (d1 : Nat),
  A = some ⟨g, o, none⟩ ∧ u = .mk k b n s l1 m1 ∧ CellsAt c g (o + j * 8) (.agg #[.int .i64 k, .bool b, .bool n.neg, .string ⟨n.digits.toArray⟩, .int .i64 n.exp, .string ⟨s.toArray⟩, .slice A1 l1.length e1, .slice B1 m1.length d1]) := by
 obtain ⟨g, o, y, hA, hy, hc⟩ := h j u hj
 obtain ⟨k, b, n, s, l1, m1⟩ := u
 obtain ⟨A1, e1, B1, d1, rfl, -, -, -, -, -, -⟩ := In.form hy
 exact ⟨g, o, k, b, n, s, l1, m1, A1, e1, B1, d1, hA, rfl, hc⟩

set_option linter.unusedVariables false in
set_option linter.unusedSimpArgs false in
set_option maxRecDepth 100000 in
set_option maxHeartbeats 2000000 in
theorem refTexts_any (v : Vl) (x : Value) (w : World) (hx : v.In w.cell? x) : Calls Tryz.prog 90 #[x] w fun e w' => e = .returned (.bool (Sh.texts v)) ∧ Below w.heap.size w w' := by
 obtain ⟨k, b, n, s, l, m⟩ := v
 obtain ⟨A, e, B, d, rfl, q1, q2, q3, q4, q5, q6⟩ := In.form hx
 unfold maxLen at q2 q4
 have H5 := Lib.hid (show SlL w.cell? A l from q5)
 have HT := Lib.hid (show Sh.texts (.mk k b n s l m) = (Sh.textsL l && decide (k = 4)) from rfl)
 clear hx q5 q6
 go_enter Tryz.func90, Tryz.ntmps90
 go_wp2_with fail
 go_loopw [3] (fun i wr => ∃ j : Nat, j ≤ l.length ∧ i = .int .i64 j ∧ Boxed w k b n.neg n.digits n.exp s (.slice A l.length e) (.slice B m.length d) wr ∧ Sh.textsL (l.take j) = true) (fun i _ => l.length - (intOf i).toNat)
 case atStart => exact ⟨0, by omega, rfl, Boxed.start, Sh.textsL_nil⟩
 case round =>
  obtain ⟨j, hj, rfl, hW, htx⟩ := hrel
  have HW := Lib.hid hW
  have HTX := Lib.hid htx
  obtain ⟨f0, f1, f2, f3, f4, f5, f6, f7⟩ := hW.cells
  clear hW htx
  by_cases hlt : j < l.length
  ·obtain ⟨g, o, kj, bj, nj, sj, lj, mj, Aj, ej, Bj, dj, hA, hu, hc⟩ := el_parts H5.out (List.getElem?_eq_getElem hlt)
   subst hA
   have HC := Lib.hid hc
   have HU := Lib.hid hu
   have hjj : (j : Int) < (l.length : Int) := by omega
   clear hc hu
   obtain ⟨wo, hwo⟩ : ∃ W, W = wr := ⟨_, rfl⟩
   subst hwo
   go_wp2_with fail
   go_loopw [4] (fun i wr => ∃ q : Nat, q ≤ j ∧ i = .int .i64 q ∧ Boxed w k b n.neg n.digits n.exp s (.slice (some ⟨g, o, none⟩) l.length e) (.slice B m.length d) wr ∧ ∀ p u, p < q → l[p]? = some u → ¬ Sh.strOf u = sj) (fun i _ => j - (intOf i).toNat)
   case atStart => exact ⟨0, by omega, rfl, HW.out, fun p u h => absurd h (Nat.not_lt_zero _)⟩
   case round =>
    clear f0 f1 f2 f3 f4 f5 f6 f7
    obtain ⟨q, hq, rfl, hW2, hno⟩ := hrel
    have HW2 := Lib.hid hW2
    have HNO := Lib.hid hno
    obtain ⟨f0, f1, f2, f3, f4, f5, f6, f7⟩ := hW2.cells
    have hcj := (HC.out.keep hW2.le).eight
    obtain ⟨e0, e1, e2, e3, e4, e5, e6, e7⟩ := hcj
    have hgl := World.block_lt_of_cell? _ _ e0
    clear hW2 hno
    by_cases hqj : q < j
    ·obtain ⟨g2, o2, kq, bq, nq', sq, lq, mq, Aq, eq, Bq, dq, hA, hu, hc⟩ := el_parts H5.out (List.getElem?_eq_getElem (show q < l.length by omega))
     injection hA with hA
     injection hA with hg ho _
     subst hg ho
     have HQ := Lib.hid hu
     obtain ⟨d0, d1, d2, d3, d4, d5, d6, d7⟩ := (hc.keep HW2.out.le).eight
     have hqi : (q : Int) < (j : Int) := by omega
     have hql : (q : Int) < (l.length : Int) := by omega
     clear hc hu
     by_cases hs : sj = sq
     ·have hsb : (sj == sq) = true := by simpa using hs
      have HF := Lib.hid (show Sh.textsL l = false from Sh.textsL_dup hqj hlt (by rw [HQ.out, HU.out]; exact hs.symm))
      clear hs
      go_upto_region 7 with (fail)
      go_quiet (fail)
      go_wp2_with fail
      go_ret
      exact ⟨by rw [HT.out, HF.out]; rfl, below_drewN HW2.out.below _⟩
     ·have hsb : (sj == sq) = false := by simpa using hs
      have HF := Lib.hid (show ∀ p u, p < q + 1 → l[p]? = some u → ¬ Sh.strOf u = sj from fun p u hp hpu => by
       by_cases e : p = q
       ·subst e
        rw [List.getElem?_eq_getElem (show p < l.length by omega), HQ.out] at hpu
        injection hpu with hpu
        rw [← hpu]
        exact fun h => hs h.symm
       ·exact HNO.out p u (by omega) hpu)
      clear hs
      go_upto_region 7 with (fail)
      go_quiet (fail)
      go_wp2_with fail
      go_roundw
      case rel => exact ⟨q + 1, by omega, by go_num, HW2.out.next (below_drewN (Below.refl _ _) _), HF.out⟩
      case measure => simp [intOf]; omega
    ·obtain rfl : q = j := by omega
     by_cases h3 : kj = 3
     ·have t3 : (kj == 3) = true := by simpa using h3
      have t3' : (kj != 3) = false := by simpa using h3
      have HF := Lib.hid (show Sh.textsL (l.take (q + 1)) = true from Sh.textsL_next hlt HTX.out (by rw [HU.out]; exact h3) (fun p hp h => HNO.out p _ hp (List.getElem?_eq_getElem _) (by rw [h, HU.out]; rfl)))
      clear h3
      go_wp2_with fail
      go_roundw
      case rel => exact ⟨q + 1, by omega, by go_num, HW2.out, HF.out⟩
      case measure => simp [intOf]; omega
     ·have t3 : (kj == 3) = false := by simpa using h3
      have t3' : (kj != 3) = true := by simpa using h3
      have HF := Lib.hid (show Sh.textsL l = false from Sh.textsL_kind hlt (by rw [HU.out]; exact h3))
      clear h3
      go_wp2_with fail
      go_ret
      exact ⟨by rw [HT.out, HF.out]; rfl, HW2.out.below⟩
  ·obtain rfl : j = l.length := by omega
   have hl : Sh.textsL l = true := by have := HTX.out; rwa [List.take_length] at this
   have HF := Lib.hid (show Sh.texts (.mk k b n s l m) = decide (k = 4) by rw [HT.out, hl]; rfl)
   clear hl
   by_cases h4 : k = 4
   ·have t4 : (k == 4) = true := by simpa using h4
    have HD := Lib.hid (show decide (k = 4) = true from decide_eq_true h4)
    clear h4
    go_wp2_with fail
    go_ret
    exact ⟨by rw [HF.out, HD.out]; rfl, HW.out.below⟩
   ·have t4 : (k == 4) = false := by simpa using h4
    have HD := Lib.hid (show decide (k = 4) = false from decide_eq_false h4)
    clear h4
    go_wp2_with fail
    go_ret
    exact ⟨by rw [HF.out, HD.out]; rfl, HW.out.below⟩

set_option linter.unusedVariables false in
set_option linter.unusedSimpArgs false in
set_option maxRecDepth 100000 in
set_option maxHeartbeats 2000000 in
theorem refAll_any (m : List Js.Mem) (A : Option Addr) (cp : Nat) (w : World) (hs : SlM w.cell? A m) (hl : m.length ≤ cp) (hm : cp ≤ maxLen) : Calls Tryz.prog 92 #[.slice A m.length cp] w fun e w' => e = .returned (.bool (Sh.allM m)) ∧ Below w.heap.size w w' := by
 have HS := Lib.hid hs
 unfold maxLen at hm
 clear hs
 go_enter Tryz.func92, Tryz.ntmps92
 go_wp2_with fail
 go_loopw [3] (fun i wr => ∃ j : Nat, j ≤ m.length ∧ i = .int .i64 j ∧ Below w.heap.size w wr ∧ Sh.allM (m.take j) = true) (fun i _ => m.length - (intOf i).toNat)
 case atStart => exact ⟨0, by omega, rfl, Below.refl _ _, rfl⟩
 case round =>
  obtain ⟨j, hj, rfl, hb, hal⟩ := hrel
  have HB := Lib.hid hb
  have HAL := Lib.hid hal
  clear hb hal
  by_cases hlt : j < m.length
  ·obtain ⟨g, o, y, rfl, hy, hk, hc⟩ := HS.out j _ (List.getElem?_eq_getElem hlt)
   obtain ⟨k1, b1, n1, g1, x1, s1, A1, l1, p1, B1, m1, d1, rfl⟩ := In.cells hy
   have HSC := Lib.hid (refSchema_any (m[j]).2 _ wr (In.keep (le_below HB.out) _ _ hy))
   obtain ⟨e0, e1, e2, e3, e4, e5, e6, e7⟩ := (hc.keep (le_below HB.out)).eight
   have HN := Lib.hid (fun h => Sh.allM_next hlt HAL.out h)
   have HX := Lib.hid (fun h => Sh.allM_not (m := m) hlt h)
   have hjj : (j : Int) < (m.length : Int) := by omega
   have hgl := World.block_lt_of_cell? _ _ e0
   clear hy hk hc
   obtain ⟨sb, hsb⟩ : ∃ sb, Sh.isSch (m[j]).2 = sb := ⟨_, rfl⟩
   rw [hsb] at HSC HN HX
   clear hsb
   go_wp2_with fail
   refine HSC.out.mono ?_
   rintro e2 w2 ⟨rfl, hb2⟩
   have HB2 := Lib.hid (HB.out.trans (hb2.mono HB.out.size))
   clear hb2 HSC
   cases sb with
   | true =>
    go_wp2_with fail
    go_roundw
    case rel => exact ⟨j + 1, by omega, by go_num, HB2.out, HN.out (by simp)⟩
    case measure => simp [intOf]; omega
   | false =>
    go_wp2_with fail
    go_ret
    exact ⟨by rw [HX.out (by simp)]; rfl, HB2.out⟩
  ·obtain rfl : j = m.length := by omega
   have HF := Lib.hid (show Sh.allM m = true by have := HAL.out; rwa [List.take_length] at this)
   go_wp2_with fail
   go_ret
   exact ⟨by rw [HF.out]; rfl, HB.out⟩

theorem refDigits_any (n : Nat) (w : World) (h : n ≤ 1000000) : Calls Tryz.prog 93 #[.int .i64 n] w fun e w' => e = .returned (.string ⟨(Lib.decDigits n).toArray⟩) ∧ Below w.heap.size w w' := by
 have HI := Lib.hid (showPlain_any n w h)
 clear h
 go_enter Tryz.func93, Tryz.ntmps93
 go_wp2_with fail
 refine HI.out.mono ?_
 rintro e w1 ⟨rfl, hb⟩
 go_wp2_with fail
 go_ret
 exact ⟨rfl, hb⟩

end Go.Proofs.YtolkfgikomminaaGreatDoor

namespace Go.Proofs.YtolkfgikomminaaGreatDoor
open Go.RowKit Js

def KidsP (S : Nat → Prop) (r : List Js.Mem) (w : World) (e : Ending) (w' : World) : Prop :=
 ∃ (A : Option Addr) (cp : Nat), e = .returned (.slice A r.length cp) ∧ SlM (w'.on fun b => S b ∨ w.heap.size ≤ b) A r ∧ r.length ≤ cp ∧ cp ≤ maxLen ∧ Below w.heap.size w w'
theorem via10 {K : Act → World → Prop} {a : Act} {w' : World} (F : World → Prop) (hF : F w') (h : ∀ W, F W → K a W) : K a w' := h w' hF
theorem RowG.more {α : Type} {It : Cl → α → List Value → Prop} {T : TypeId} {k : Nat} {S : Nat → Prop} (hmono : ∀ {c c' : Cl}, c.le c' → ∀ {a cs}, It c a cs → It c' a cs) {w : World} {B : Nat} {A : Option Addr} {cp j : Nat} {acc : List α} (hj : acc.length = j) (h : RowG It T k S w B A cp acc) :
  ∃ flat, w.ownsRow B T k (.slice A j cp) j flat ∧ ∀ {w6 : World} {a : α} {cs : List Value} {g cap : Nat}, It (w.on (OffS S B A)) a cs → (∀ u ∈ cs, u.oneCell' = true) → w6.ownsRow B T k (.slice (some ⟨g, 0, none⟩) (j + 1) cap) (j + 1) (flat ++ cs) → w.grownBy w6 (Value.slice A j cp).ownBlock → ((Value.slice A j cp).ownBlock = some g ∨ g = w.heap.size) → RowG It T k S w6 B (some ⟨g, 0, none⟩) cap (acc ++ [a]) := by
 subst hj
 obtain ⟨flat, hown, hone, hel⟩ := h
 exact ⟨flat, hown, fun ha hcs h6 hg hat => RowG.push hmono hown hone hel (Below.refl _ _) ha hcs h6 hg hat⟩
theorem slM_one10 {w : World} {S : Nat → Prop} {g : Nat} {t : TypeId} {nm : List UInt8} {x : Vl} {c0 c1 c2 c3 c4 c5 c6 c7 : Value} (hb : Blk w g t #[.string ⟨nm.toArray⟩, c0, c1, c2, c3, c4, c5, c6, c7]) (hg : S g)
  (hx : x.In (w.on S) (.agg #[c0, c1, c2, c3, c4, c5, c6, c7])) : SlM (w.on S) (some ⟨g, 0, none⟩) [(nm, x)] := fun i p hi => by
 have hl := (List.getElem?_eq_some_iff.1 hi).1
 obtain rfl : i = 0 := by simpa using hl
 obtain rfl : (nm, x) = p := by simpa using hi
 refine ⟨g, 0, _, rfl, hx, on_some.2 ⟨hg, hb.cell 0⟩, fun j u hu => on_some.2 ⟨hg, ?_⟩⟩
 rw [hb.cell]
 have e : (#[.string ⟨nm.toArray⟩, c0, c1, c2, c3, c4, c5, c6, c7] : Array Value) = #[.string ⟨nm.toArray⟩] ++ #[c0, c1, c2, c3, c4, c5, c6, c7] := rfl
 rw [e, show 0 + 0 * 9 + 1 + j = 1 + j by omega, Array.getElem?_append_right (by simp)]
 simpa [Value.cells] using hu
theorem Boxed.grown10 {w w' w6 : World} {k : Int} {b neg : Bool} {dg : List UInt8} {ex : Int} {s : List UInt8} {lv mv : Value} {row : Option Nat} (h : Boxed w k b neg dg ex s lv mv w') (hg : w'.grownBy w6 row) (hr : ∀ q, row = some q → w.heap.size + 1 ≤ q) : Boxed w k b neg dg ex s lv mv w6 := by
 have h2 : Below _ _ w' := h
 exact h2.grown hg (by have := h2.size; simp at this; omega) hr
theorem Boxed.size10 {w w' : World} {k : Int} {b neg : Bool} {dg : List UInt8} {ex : Int} {s : List UInt8} {lv mv : Value} (h : Boxed w k b neg dg ex s lv mv w') : w.heap.size + 1 ≤ w'.heap.size := by
 have h2 : Below _ _ w' := h
 have := h2.size
 simp at this; omega

set_option linter.unusedVariables false in
set_option linter.unusedSimpArgs false in
set_option maxRecDepth 100000 in
set_option maxHeartbeats 2000000 in
theorem refKids_list (S : Nat → Prop) (nm : List UInt8) (h10 : nm = [97, 108, 108, 79, 102] ∨ nm = [97, 110, 121, 79, 102] ∨ nm = [111, 110, 101, 79, 102]) (k : Int) (b : Bool) (n : Nm.Num) (s : List UInt8) (l : List Vl) (m : List Js.Mem) (A : Option Addr) (e : Nat) (B : Option Addr) (d : Nat) (w : World) (hS : ∀ b, S b → b < w.heap.size) (q1 : l.length ≤ e) (q2 : e ≤ maxLen) (hs5 : SlL (w.on S) A l) (hsz : l.length ≤ 1000000) :
  Calls Tryz.prog 67 #[.string ⟨nm.toArray⟩, .agg #[.int .i64 k, .bool b, .bool n.neg, .string ⟨n.digits.toArray⟩, .int .i64 n.exp, .string ⟨s.toArray⟩, .slice A l.length e, .slice B m.length d]] w (KidsP S (Sh.numbered l) w) := by
 have H5 := Lib.hid hs5
 have HS := Lib.hid hS
 have HSG := Lib.hid (refSingle_any nm)
 unfold maxLen at q2
 clear hs5 hS
 rcases h10 with rfl | rfl | rfl
 all_goals
  rw [show Sh.single _ = false by decide] at HSG
  go_enter Tryz.func67, Tryz.ntmps67
  go_wp2_with fail
  refine (HSG.out _).mono ?_
  rintro e1 w1 ⟨rfl, rfl⟩
  go_wp2_with fail
  go_loopw [6, 7] (fun o6 i7 wr => ∃ (j : Nat) (A1 : Option Addr) (c1 : Nat) (acc : List Js.Mem), o6 = .slice A1 j c1 ∧ i7 = .int .i64 j ∧ j ≤ l.length ∧ acc = Sh.numbered (l.take j) ∧ acc.length = j ∧ Boxed w k b n.neg n.digits n.exp s (.slice A l.length e) (.slice B m.length d) wr ∧ RowG ItM 91 9 S wr (w.heap.size + 1) A1 c1 acc) (fun _ i _ => l.length - (intOf i).toNat)
  case atStart => exact ⟨0, none, 0, [], rfl, rfl, by omega, rfl, rfl, Boxed.start, RowG.nil _ _⟩
  case round =>
   obtain ⟨j, A1, c1, acc, rfl, rfl, hj, hacc, hlen, hW, hrow⟩ := hrel
   have HW := Lib.hid hW
   have HROW := Lib.hid hrow
   have HACC := Lib.hid hacc
   have HLEN := Lib.hid hlen
   have hrl := hrow.le
   rw [hlen] at hrl
   obtain ⟨f0, f1, f2, f3, f4, f5, f6, f7⟩ := hW.cells
   clear hW hrow hacc hlen
   by_cases hlt : j < l.length
   ·obtain ⟨g, o, y, rfl, hy, hc⟩ := H5.out j _ (List.getElem?_eq_getElem hlt)
    obtain ⟨y_1, y_2, y_3, y_4, y_5, y_6, y_7, y_8, y_9, y_a, y_b, y_c, rfl⟩ := In.cells hy
    have HDG := Lib.hid (fun W => refDigits_any j W (by omega))
    have HC := Lib.hid (show CellsAt w.cell? g (o + j * 8) (.agg #[.int .i64 y_1, .bool y_2, .bool y_3, .string ⟨y_4.toArray⟩, .int .i64 y_5, .string ⟨y_6.toArray⟩, .slice y_7 y_8 y_9, .slice y_a y_b y_c]) from hc.keep (on_all w S))
    have HY := Lib.hid hy
    have HNX := Lib.hid (Sh.numbered_take l j hlt)
    obtain ⟨i0, hi0, hz0, hz1, hz2⟩ := infoM'
    have hjj : (j : Int) < (l.length : Int) := by omega
    have HB0 := Lib.hid HW.out.below
    clear hy hc f0 f1 f2 f3 f4 f5 f7
    obtain ⟨e0, e1, e2, e3, e4, e5, e6, e7⟩ := (HC.out.keep HW.out.le).eight
    have hgl := World.block_lt_of_cell? _ _ e0
    clear e0 e1 e2 e3 e4 e5 e6 e7
    go_upto_region 11 with (fail)
    clear f6
    refine wp_region_held_drew (S := Boxed w k b n.neg n.digits n.exp s (.slice (some ⟨g, o, none⟩) l.length e) (.slice B m.length d)) (by kernel_rfl) (HW.out.next (below_drewN (Below.refl _ _) 1)) (fun ht => ?_)
    refine wpAnyH_take (i := 0) (oi := ⟨some _, _, _, _, _, _⟩) (v := (.slice A1 j c1)) rfl (by kernel_rfl) (by kernel_rfl) (by kernel_rfl) (fun _ _ _ h => h) (Or.inl ⟨by rfl, ?_⟩) ht ?_
    ·intro W9 hSw
     go_simp
    try simp only [Act.put, List.setIfInBounds_toArray, List.set_cons_zero, List.set_cons_succ]
    refine wpAnyH_take (i := 1) (oi := ⟨some _, _, _, _, _, _⟩) (v := (.int .i64 j)) rfl (by kernel_rfl) (by kernel_rfl) (by kernel_rfl) (fun _ _ _ h => h) (Or.inl ⟨by rfl, ?_⟩) ht ?_
    ·intro W9 hSw
     go_simp
    try simp only [Act.put, List.setIfInBounds_toArray, List.set_cons_zero, List.set_cons_succ]
    refine wpAnyH_take (i := 3) (oi := ⟨some _, _, _, _, _, _⟩) (v := (.pointer (some ⟨w.heap.size, 6, none⟩))) rfl (by kernel_rfl) (by kernel_rfl) (by kernel_rfl) (fun _ _ _ h => h) (Or.inl ⟨by rfl, ?_⟩) ht ?_
    ·intro W9 hSw
     go_simp
    try simp only [Act.put, List.setIfInBounds_toArray, List.set_cons_zero, List.set_cons_succ]
    refine wpAnyH_take (i := 4) (oi := ⟨some _, _, _, _, _, _⟩) (v := (.slice (some ⟨g, o, none⟩) l.length e)) rfl (by kernel_rfl) (by kernel_rfl) (by kernel_rfl) (fun _ _ _ h => h) (Or.inl ⟨by rfl, ?_⟩) ht ?_
    ·intro W9 hSw
     obtain ⟨f0, f1, f2, f3, f4, f5, f6, f7⟩ := hSw.cells
     go_simp
    try simp only [Act.put, List.setIfInBounds_toArray, List.set_cons_zero, List.set_cons_succ]
    refine wpAnyH_take (i := 5) (oi := ⟨some _, _, _, _, _, _⟩) (v := (.int .i64 j)) rfl (by kernel_rfl) (by kernel_rfl) (by kernel_rfl) (fun _ _ _ h => h) (Or.inl ⟨by rfl, ?_⟩) ht ?_
    ·intro W9 hSw
     go_simp
    try simp only [Act.put, List.setIfInBounds_toArray, List.set_cons_zero, List.set_cons_succ]
    refine wpAnyH_take (i := 6) (oi := ⟨some _, _, _, _, _, _⟩) (v := (.pointer (some ⟨g, o + j * 8, none⟩))) rfl (by kernel_rfl) (by kernel_rfl) (by kernel_rfl) (fun _ _ _ h => h) (Or.inl ⟨by rfl, ?_⟩) ht ?_
    ·intro W9 hSw
     go_simp
    try simp only [Act.put, List.setIfInBounds_toArray, List.set_cons_zero, List.set_cons_succ]
    refine wpAnyH_take (i := 7) (oi := ⟨some _, _, _, _, _, _⟩) (v := (.agg #[.int .i64 y_1, .bool y_2, .bool y_3, .string ⟨y_4.toArray⟩, .int .i64 y_5, .string ⟨y_6.toArray⟩, .slice y_7 y_8 y_9, .slice y_a y_b y_c])) rfl (by kernel_rfl) (by kernel_rfl) (by kernel_rfl) (fun _ _ _ h => h) (Or.inl ⟨by rfl, ?_⟩) ht ?_
    ·intro W9 hSw
     obtain ⟨e0, e1, e2, e3, e4, e5, e6, e7⟩ := (HC.out.keep hSw.le).eight
     go_simp
    try simp only [Act.put, List.setIfInBounds_toArray, List.set_cons_zero, List.set_cons_succ]
    refine wpAnyH_ready (rs := [2]) (by kernel_rfl) (by simp) ?_
    refine AllReadyH.cons (o := ⟨some _, _, _, _, _, _⟩) rfl (fun K hK => ?_) (AllReadyH.nil)
    go_simp
    refine (HDG.out _).mono ?_
    rintro e2 w2 ⟨rfl, hb2⟩
    have hs := ht.next hb2
    have HR2 := Lib.hid (HROW.out.below (It := ItM) (fun h => ItM.mono h) ((below_drewN (Below.refl _ _) 1).trans hb2))
    have HB2 := Lib.hid (HB0.out.trans (((below_drewN (Below.refl _ _) 1).trans hb2).mono HB0.out.size))
    clear hb2 ht
    go_wp2_with fail
    refine hK.out _ _ hs (fun ht => ?_)
    clear hK K hs
    try simp only [Act.put, List.setIfInBounds_toArray, List.set_cons_zero, List.set_cons_succ]
    refine wpAnyH_take (i := 8) (oi := ⟨some _, _, _, _, _, _⟩) (v := (.agg #[.string ⟨(Lib.decDigits j).toArray⟩, .int .i64 y_1, .bool y_2, .bool y_3, .string ⟨y_4.toArray⟩, .int .i64 y_5, .string ⟨y_6.toArray⟩, .slice y_7 y_8 y_9, .slice y_a y_b y_c])) rfl (by kernel_rfl) (by kernel_rfl) (by kernel_rfl) (fun _ _ _ h => h) (Or.inl ⟨by rfl, ?_⟩) ht ?_
    ·intro W9 hSw
     go_simp
    try simp only [Act.put, List.setIfInBounds_toArray, List.set_cons_zero, List.set_cons_succ]
    refine wpAnyH_ready (rs := [9]) (by kernel_rfl) (by simp) ?_
    refine AllReadyH.cons (o := ⟨some _, _, _, _, _, _⟩) rfl (fun K hK => ?_) (AllReadyH.nil)
    go_simp
    refine via10 (K := K) (fun W9 => Boxed w k b n.neg n.digits n.exp s (.slice (some ⟨g, o, none⟩) l.length e) (.slice B m.length d) W9 ∧ Blk W9 w2.heap.size 91 #[.string ⟨(Lib.decDigits j).toArray⟩, .int .i64 y_1, .bool y_2, .bool y_3, .string ⟨y_4.toArray⟩, .int .i64 y_5, .string ⟨y_6.toArray⟩, .slice y_7 y_8 y_9, .slice y_a y_b y_c] ∧ RowG ItM 91 9 S W9 (w.heap.size + 1) A1 c1 acc) ⟨ht.next ((Below.refl _ _).alloc (Nat.le_refl _) _), Blk.new w2 _ _, HR2.out.below (It := ItM) (fun h => ItM.mono h) ((Below.refl _ _).alloc (Nat.le_refl _) _)⟩ ?_
    rintro w3 ⟨ht3, hn, hr3⟩
    have HN := Lib.hid hn
    have HR3 := Lib.hid hr3
    clear hn hr3 ht HR2 HB2
    refine hK.out _ _ ht3 (fun ht => ?_)
    clear hK K ht3
    try simp only [Act.put, List.setIfInBounds_toArray, List.set_cons_zero, List.set_cons_succ]
    obtain ⟨gN, hgN⟩ : ∃ g, g = w2.heap.size := ⟨_, rfl⟩
    rw [← hgN] at HN ⊢
    clear hgN
    obtain ⟨flat, hown, hpush⟩ := RowG.more (It := ItM) (fun h => ItM.mono h) HLEN.out HR3.out
    have hsz3 : w.heap.size + 1 ≤ w3.heap.size := ht.size10
    have hit : ItM (w3.on (OffS S (w.heap.size + 1) A1)) (Lib.decDigits j, l[j]) (#[.string ⟨(Lib.decDigits j).toArray⟩, .int .i64 y_1, .bool y_2, .bool y_3, .string ⟨y_4.toArray⟩, .int .i64 y_5, .string ⟨y_6.toArray⟩, .slice y_7 y_8 y_9, .slice y_a y_b y_c] : Array Value).toList := ⟨#[.int .i64 y_1, .bool y_2, .bool y_3, .string ⟨y_4.toArray⟩, .int .i64 y_5, .string ⟨y_6.toArray⟩, .slice y_7 y_8 y_9, .slice y_a y_b y_c], rfl, In.keep (off_of HS.out (by omega) ht.below (fun ad h => (hrl.2.2.2 ad h).1)) _ _ HY.out⟩
    refine wpAnyH_ready (rs := [10]) (by kernel_rfl) (by simp) ?_
    refine AllReadyH.cons (o := ⟨some _, _, _, _, _, _⟩) rfl (fun K hK => ?_) (AllReadyH.nil)
    refine step_append_lies _ rfl _ _ _ rfl (w.heap.size + 1) 91 i0 _ 9 128 Tryz.underlying29 hi0 hz0 hz1 hz2 rfl (by omega) (.slice A1 j c1) j flat rfl hown ⟨gN, 0, none⟩ 1 1 (#[.string ⟨(Lib.decDigits j).toArray⟩, .int .i64 y_1, .bool y_2, .bool y_3, .string ⟨y_4.toArray⟩, .int .i64 y_5, .string ⟨y_6.toArray⟩, .slice y_7 y_8 y_9, .slice y_a y_b y_c] : Array Value).toList rfl rfl (World.news_of_block HN.out) (by simp [Value.oneCell']) (by omega) (by unfold maxLen; omega) (by omega) hsz3 _ rfl ?_
    intro g6 cap6 w6 hown6 hgr6 hat6 hlt6
    have HR6 := Lib.hid (hpush hit (by simp [Value.oneCell']) hown6 hgr6 hat6)
    have hkr : ∀ q, (Value.slice A1 j c1).ownBlock = some q → w.heap.size + 1 ≤ q := fun q hq => own_new (fun ad h => (hrl.2.2.2 ad h).1) hq
    have ht6 := ht.grown10 hgr6 hkr
    clear hown6 hgr6 hat6 hit hown hpush ht
    refine hK.out _ _ ht6 (fun ht => ?_)
    clear hK K ht6
    try simp only [Act.put, List.setIfInBounds_toArray, List.set_cons_zero, List.set_cons_succ]
    refine wpAnyH_take (i := 11) (oi := ⟨some _, _, _, _, _, _⟩) (v := (.slice (some ⟨g6, 0, none⟩) (j + 1) cap6)) rfl (by kernel_rfl) (by kernel_rfl) (by kernel_rfl) (fun _ _ _ h => h) (Or.inl ⟨by rfl, ?_⟩) ht ?_
    ·intro W9 hSw
     go_simp
    try simp only [Act.put, List.setIfInBounds_toArray, List.set_cons_zero, List.set_cons_succ]
    refine wpAnyH_done (by kernel_rfl) ?_ _
    have HX := Lib.hid ht
    clear ht
    go_wp2_with fail
    go_roundw
    case rel => exact ⟨j + 1, _, cap6, acc ++ [(Lib.decDigits j, l[j])], rfl, by go_num, by omega, by rw [HNX.out, HACC.out], by rw [List.length_append, HLEN.out]; rfl, HX.out, HR6.out⟩
    case measure => simp [intOf]; omega
   ·obtain rfl : j = l.length := by omega
    have HE := Lib.hid (show acc = Sh.numbered l by rw [HACC.out, List.take_length])
    go_wp2_with fail
    go_ret
    refine ⟨A1, c1, by rw [Sh.numbered_len]; rfl, ?_, by rw [Sh.numbered_len]; exact hrl.1, hrl.2.1, HW.out.below⟩
    have h := HROW.out.slM
    rw [HE.out] at h
    exact h.keep (on_sub fun b hb => hb.imp id (fun k => by omega))
set_option linter.unusedVariables false in
set_option linter.unusedSimpArgs false in
set_option maxRecDepth 100000 in
set_option maxHeartbeats 2000000 in
theorem refKids_single (S : Nat → Prop) (nm : List UInt8) (hn : nm = [105, 116, 101, 109, 115] ∨ nm = [97, 100, 100, 105, 116, 105, 111, 110, 97, 108, 80, 114, 111, 112, 101, 114, 116, 105, 101, 115] ∨ nm = [110, 111, 116]) (k : Int) (b : Bool) (n : Nm.Num) (s : List UInt8) (l : List Vl) (m : List Js.Mem) (A : Option Addr) (e : Nat) (B : Option Addr) (d : Nat) (w : World) (hS : ∀ b, S b → b < w.heap.size) (hx : (Vl.mk k b n s l m).In (w.on S) (.agg #[.int .i64 k, .bool b, .bool n.neg, .string ⟨n.digits.toArray⟩, .int .i64 n.exp, .string ⟨s.toArray⟩, .slice A l.length e, .slice B m.length d])) :
  Calls Tryz.prog 67 #[.string ⟨nm.toArray⟩, .agg #[.int .i64 k, .bool b, .bool n.neg, .string ⟨n.digits.toArray⟩, .int .i64 n.exp, .string ⟨s.toArray⟩, .slice A l.length e, .slice B m.length d]] w (KidsP S (Sh.kids nm (.mk k b n s l m)) w) := by
 have HKS := Lib.hid (show Sh.kids nm (.mk k b n s l m) = [([], .mk k b n s l m)] by rw [Sh.kids_mk, if_pos (by rcases hn with rfl | rfl | rfl <;> decide)])
 have HX := Lib.hid hx
 have HS := Lib.hid hS
 have HSG := Lib.hid (refSingle_any nm)
 have HB := Lib.hid (((Below.refl w.heap.size w).alloc (Nat.le_refl _) (.cells #[.int .i64 k, .bool b, .bool n.neg, .string ⟨n.digits.toArray⟩, .int .i64 n.exp, .string ⟨s.toArray⟩, .slice A l.length e, .slice B m.length d] 31)).alloc (by simp) (.cells #[.string ⟨#[]⟩, .int .i64 k, .bool b, .bool n.neg, .string ⟨n.digits.toArray⟩, .int .i64 n.exp, .string ⟨s.toArray⟩, .slice A l.length e, .slice B m.length d] 91))
 have HN := Lib.hid (Blk.new2 w (.cells #[.int .i64 k, .bool b, .bool n.neg, .string ⟨n.digits.toArray⟩, .int .i64 n.exp, .string ⟨s.toArray⟩, .slice A l.length e, .slice B m.length d] 31) 91 #[.string ⟨([] : List UInt8).toArray⟩, .int .i64 k, .bool b, .bool n.neg, .string ⟨n.digits.toArray⟩, .int .i64 n.exp, .string ⟨s.toArray⟩, .slice A l.length e, .slice B m.length d])
 clear hx hS
 rcases hn with rfl | rfl | rfl
 all_goals
  rw [show Sh.single _ = true by decide] at HSG
  go_enter Tryz.func67, Tryz.ntmps67
  go_wp2_with fail
  refine (HSG.out _).mono ?_
  rintro e1 w1 ⟨rfl, rfl⟩
  go_wp2_with fail
  go_ret
  rw [HKS.out]
  exact ⟨some ⟨w.heap.size + 1, 0, none⟩, 1, rfl, slM_one10 HN.out (.inr (Nat.le_succ _)) (In.keep (on_keep (fun b h _ => .inl h) (fun b h _ => HB.out.block b (HS.out b h))) _ _ HX.out), Nat.le_refl _, by unfold maxLen; omega, HB.out⟩

set_option linter.unusedVariables false in
set_option linter.unusedSimpArgs false in
set_option maxRecDepth 100000 in
set_option maxHeartbeats 2000000 in
theorem refKids_members (S : Nat → Prop) (nm : List UInt8) (hn : nm = [112, 114, 111, 112, 101, 114, 116, 105, 101, 115] ∨ nm = [36, 100, 101, 102, 115]) (k : Int) (b : Bool) (n : Nm.Num) (s : List UInt8) (l : List Vl) (m : List Js.Mem) (A : Option Addr) (e : Nat) (B : Option Addr) (d : Nat) (w : World) (hS : ∀ b, S b → b < w.heap.size) (q3 : m.length ≤ d) (q4 : d ≤ maxLen) (q6 : SlM (w.on S) B m) :
  Calls Tryz.prog 67 #[.string ⟨nm.toArray⟩, .agg #[.int .i64 k, .bool b, .bool n.neg, .string ⟨n.digits.toArray⟩, .int .i64 n.exp, .string ⟨s.toArray⟩, .slice A l.length e, .slice B m.length d]] w (KidsP S (Sh.kids nm (.mk k b n s l m)) w) := by
 have HKS := Lib.hid (show Sh.kids nm (.mk k b n s l m) = m by rw [Sh.kids_mk, if_neg (by rcases hn with rfl | rfl <;> decide), if_pos (by rcases hn with rfl | rfl <;> decide)])
 have H6 := Lib.hid q6
 have HS := Lib.hid hS
 have HSG := Lib.hid (refSingle_any nm)
 have HB := Lib.hid ((Below.refl w.heap.size w).alloc (Nat.le_refl _) (.cells #[.int .i64 k, .bool b, .bool n.neg, .string ⟨n.digits.toArray⟩, .int .i64 n.exp, .string ⟨s.toArray⟩, .slice A l.length e, .slice B m.length d] 31))
 clear q6 hS
 rcases hn with rfl | rfl
 all_goals
  rw [show Sh.single _ = false by decide] at HSG
  go_enter Tryz.func67, Tryz.ntmps67
  go_wp2_with fail
  refine (HSG.out _).mono ?_
  rintro e1 w1 ⟨rfl, rfl⟩
  go_wp2_with fail
  go_ret
  rw [HKS.out]
  exact ⟨B, d, rfl, H6.out.keep (on_keep (fun b h _ => .inl h) (fun b h _ => HB.out.block b (HS.out b h))), q3, q4, HB.out⟩

set_option linter.unusedVariables false in
set_option linter.unusedSimpArgs false in
set_option maxRecDepth 100000 in
set_option maxHeartbeats 2000000 in
theorem refKids_none (S : Nat → Prop) (nm : List UInt8) (hn : ¬ nm ∈ [[105, 116, 101, 109, 115], [97, 100, 100, 105, 116, 105, 111, 110, 97, 108, 80, 114, 111, 112, 101, 114, 116, 105, 101, 115], [110, 111, 116], [112, 114, 111, 112, 101, 114, 116, 105, 101, 115], [36, 100, 101, 102, 115], [97, 108, 108, 79, 102], [97, 110, 121, 79, 102], [111, 110, 101, 79, 102]]) (k : Int) (b : Bool) (n : Nm.Num) (s : List UInt8) (l : List Vl) (m : List Js.Mem) (A : Option Addr) (e : Nat) (B : Option Addr) (d : Nat) (w : World) (hS : ∀ b, S b → b < w.heap.size) :
  Calls Tryz.prog 67 #[.string ⟨nm.toArray⟩, .agg #[.int .i64 k, .bool b, .bool n.neg, .string ⟨n.digits.toArray⟩, .int .i64 n.exp, .string ⟨s.toArray⟩, .slice A l.length e, .slice B m.length d]] w (KidsP S (Sh.kids nm (.mk k b n s l m)) w) := by
 have h8 : ¬ Sh.kw nm = 8 := Sh.kw_only _ (by decide) hn (by decide)
 have h9 : ¬ Sh.kw nm = 9 := Sh.kw_only _ (by decide) hn (by decide)
 have h10 : ¬ Sh.kw nm = 10 := Sh.kw_only _ (by decide) hn (by decide)
 have HKS := Lib.hid (show Sh.kids nm (.mk k b n s l m) = [] by rw [Sh.kids_mk, if_neg h8, if_neg h9, if_neg h10])
 have HSG := Lib.hid (refSingle_any nm)
 rw [show Sh.single nm = false from decide_eq_false h8] at HSG
 have HB := Lib.hid ((Below.refl w.heap.size w).alloc (Nat.le_refl _) (.cells #[.int .i64 k, .bool b, .bool n.neg, .string ⟨n.digits.toArray⟩, .int .i64 n.exp, .string ⟨s.toArray⟩, .slice A l.length e, .slice B m.length d] 31))
 have e0 : (nm == [112, 114, 111, 112, 101, 114, 116, 105, 101, 115]) = false := by rw [beq_eq_false_iff_ne]; rintro rfl; exact hn (by simp)
 have e1 : (nm == [36, 100, 101, 102, 115]) = false := by rw [beq_eq_false_iff_ne]; rintro rfl; exact hn (by simp)
 have e2 : (nm == [97, 108, 108, 79, 102]) = false := by rw [beq_eq_false_iff_ne]; rintro rfl; exact hn (by simp)
 have e3 : (nm == [97, 110, 121, 79, 102]) = false := by rw [beq_eq_false_iff_ne]; rintro rfl; exact hn (by simp)
 have e4 : (nm == [111, 110, 101, 79, 102]) = false := by rw [beq_eq_false_iff_ne]; rintro rfl; exact hn (by simp)
 clear hn hS h8 h9 h10
 go_enter Tryz.func67, Tryz.ntmps67
 go_wp2_with fail
 refine (HSG.out _).mono ?_
 rintro e1 w1 ⟨rfl, rfl⟩
 go_wp2_with fail
 go_ret
 rw [HKS.out]
 exact ⟨none, 0, rfl, (fun i p h => by simp at h), Nat.le_refl _, Nat.zero_le _, HB.out⟩

theorem refKids_any (S : Nat → Prop) (nm : List UInt8) (v : Vl) (x : Value) (w : World) (hS : ∀ b, S b → b < w.heap.size) (hx : v.In (w.on S) x) (hsz : v.size ≤ 1000000) :
  Calls Tryz.prog 67 #[.string ⟨nm.toArray⟩, x] w (KidsP S (Sh.kids nm v) w) := by
 obtain ⟨k, b, n, s, l, m⟩ := v
 obtain ⟨A, e, B, d, rfl, q1, q2, q3, q4, q5, q6⟩ := In.form hx
 have hl : l.length ≤ 1000000 := by
  have h : l.length ≤ sizeL l := sizeL_len l
  simp only [Vl.size] at hsz; omega
 by_cases hn : nm ∈ [[105, 116, 101, 109, 115], [97, 100, 100, 105, 116, 105, 111, 110, 97, 108, 80, 114, 111, 112, 101, 114, 116, 105, 101, 115], [110, 111, 116], [112, 114, 111, 112, 101, 114, 116, 105, 101, 115], [36, 100, 101, 102, 115], [97, 108, 108, 79, 102], [97, 110, 121, 79, 102], [111, 110, 101, 79, 102]]
 ·simp only [List.mem_cons, List.not_mem_nil, or_false] at hn
  rcases hn with h | h | h | h | h | h | h | h
  ·exact refKids_single S nm (.inl h) k b n s l m A e B d w hS hx
  ·exact refKids_single S nm (.inr (.inl h)) k b n s l m A e B d w hS hx
  ·exact refKids_single S nm (.inr (.inr h)) k b n s l m A e B d w hS hx
  ·exact refKids_members S nm (.inl h) k b n s l m A e B d w hS q3 q4 q6
  ·exact refKids_members S nm (.inr h) k b n s l m A e B d w hS q3 q4 q6
  ·have hk : Sh.kids nm (.mk k b n s l m) = Sh.numbered l := by subst h; rw [Sh.kids_mk, if_neg (by decide), if_neg (by decide), if_pos (by decide)]
   rw [hk]; exact refKids_list S nm (.inl h) k b n s l m A e B d w hS q1 q2 q5 hl
  ·have hk : Sh.kids nm (.mk k b n s l m) = Sh.numbered l := by subst h; rw [Sh.kids_mk, if_neg (by decide), if_neg (by decide), if_pos (by decide)]
   rw [hk]; exact refKids_list S nm (.inr (.inl h)) k b n s l m A e B d w hS q1 q2 q5 hl
  ·have hk : Sh.kids nm (.mk k b n s l m) = Sh.numbered l := by subst h; rw [Sh.kids_mk, if_neg (by decide), if_neg (by decide), if_pos (by decide)]
   rw [hk]; exact refKids_list S nm (.inr (.inr h)) k b n s l m A e B d w hS q1 q2 q5 hl
 ·exact refKids_none S nm hn k b n s l m A e B d w hS

end Go.Proofs.YtolkfgikomminaaGreatDoor

namespace Go.Proofs.YtolkfgikomminaaGreatDoor
open Go.RowKit Js

theorem Sh.shape_ok {nm : List UInt8} {q : Nat} {v : Vl} (h : Sh.kw nm = q) (hq : ¬ q = 0) (ho : Sh.okOf q v = true) : Sh.shape nm v = 0 := by rw [Sh.shape_eq v h hq, ho]; rfl
theorem Sh.shape_no {nm : List UInt8} {q : Nat} {v : Vl} (h : Sh.kw nm = q) (hq : ¬ q = 0) (ho : Sh.okOf q v = false) : Sh.shape nm v = 11 := by rw [Sh.shape_eq v h hq, ho]; rfl

set_option linter.unusedVariables false in
set_option linter.unusedSimpArgs false in
set_option maxRecDepth 100000 in
set_option maxHeartbeats 2000000 in
theorem shape_enum (nm : List UInt8) (hn : nm = [101, 110, 117, 109]) (k : Int) (b neg : Bool) (dg : List UInt8) (ex : Int) (s : List UInt8) (l : List Vl) (m : List Js.Mem) (A : Option Addr) (e : Nat) (B : Option Addr) (d : Nat) (w : World) (hx : (Vl.mk k b ⟨neg, dg, ex⟩ s l m).In w.cell? (.agg #[.int .i64 k, .bool b, .bool neg, .string ⟨dg.toArray⟩, .int .i64 ex, .string ⟨s.toArray⟩, .slice A l.length e, .slice B m.length d])) (q1 : l.length ≤ e) (q2 : e ≤ maxLen) (q3 : m.length ≤ d) (q4 : d ≤ maxLen) (q5 : SlL w.cell? A l) (q6 : SlM w.cell? B m) (hsz : l.length ≤ 1000000) :
  Calls Tryz.prog 66 #[.string ⟨nm.toArray⟩, .agg #[.int .i64 k, .bool b, .bool neg, .string ⟨dg.toArray⟩, .int .i64 ex, .string ⟨s.toArray⟩, .slice A l.length e, .slice B m.length d]] w fun e w' => e = .returned (.int .i64 (Sh.shape nm (.mk k b ⟨neg, dg, ex⟩ s l m))) ∧ Below w.heap.size w w' := by
 have HQ := Lib.hid (show Sh.kw nm = 2 by rcases hn with rfl <;> decide)
 subst hn
 unfold maxLen at q2 q4
 clear hx q5 q6 hsz
 by_cases h4 : k = 4
 ·have t4 : (k == 4) = true := by simpa using h4
  by_cases hl : 0 < l.length
  ·have tl : decide ((0 : Int) < (l.length : Int)) = true := decide_eq_true (by omega)
   have tn : decide (0 < l.length) = true := decide_eq_true hl
   have HF := Lib.hid (Sh.shape_ok (v := (.mk k b ⟨neg, dg, ex⟩ s l m)) HQ.out (by decide) (by simp only [Sh.okOf, decide_eq_true h4, decide_eq_true hl]; rfl))
   clear h4 hl
   go_enter Tryz.func66, Tryz.ntmps66
   go_wp2_with fail
   go_ret
   exact ⟨by rw [HF.out]; rfl, Boxed.start.below⟩
  ·have tl : decide ((0 : Int) < (l.length : Int)) = false := decide_eq_false (by omega)
   have tn : decide (0 < l.length) = false := decide_eq_false hl
   have HF := Lib.hid (Sh.shape_no (v := (.mk k b ⟨neg, dg, ex⟩ s l m)) HQ.out (by decide) (by simp only [Sh.okOf, decide_eq_false hl, Bool.and_false]))
   clear h4 hl
   go_enter Tryz.func66, Tryz.ntmps66
   go_wp2_with fail
   go_ret
   exact ⟨by rw [HF.out]; rfl, Boxed.start.below⟩
 ·have t4 : (k == 4) = false := by simpa using h4
  have HF := Lib.hid (Sh.shape_no (v := (.mk k b ⟨neg, dg, ex⟩ s l m)) HQ.out (by decide) (by simp only [Sh.okOf, decide_eq_false h4, Bool.false_and]))
  clear h4
  go_enter Tryz.func66, Tryz.ntmps66
  go_wp2_with fail
  go_ret
  exact ⟨by rw [HF.out]; rfl, Boxed.start.below⟩

set_option linter.unusedVariables false in
set_option linter.unusedSimpArgs false in
set_option maxRecDepth 100000 in
set_option maxHeartbeats 2000000 in
theorem shape_const (nm : List UInt8) (hn : nm = [99, 111, 110, 115, 116]) (k : Int) (b neg : Bool) (dg : List UInt8) (ex : Int) (s : List UInt8) (l : List Vl) (m : List Js.Mem) (A : Option Addr) (e : Nat) (B : Option Addr) (d : Nat) (w : World) (hx : (Vl.mk k b ⟨neg, dg, ex⟩ s l m).In w.cell? (.agg #[.int .i64 k, .bool b, .bool neg, .string ⟨dg.toArray⟩, .int .i64 ex, .string ⟨s.toArray⟩, .slice A l.length e, .slice B m.length d])) (q1 : l.length ≤ e) (q2 : e ≤ maxLen) (q3 : m.length ≤ d) (q4 : d ≤ maxLen) (q5 : SlL w.cell? A l) (q6 : SlM w.cell? B m) (hsz : l.length ≤ 1000000) :
  Calls Tryz.prog 66 #[.string ⟨nm.toArray⟩, .agg #[.int .i64 k, .bool b, .bool neg, .string ⟨dg.toArray⟩, .int .i64 ex, .string ⟨s.toArray⟩, .slice A l.length e, .slice B m.length d]] w fun e w' => e = .returned (.int .i64 (Sh.shape nm (.mk k b ⟨neg, dg, ex⟩ s l m))) ∧ Below w.heap.size w w' := by
 have HQ := Lib.hid (show Sh.kw nm = 3 by rcases hn with rfl <;> decide)
 subst hn
 unfold maxLen at q2 q4
 clear hx q5 q6 hsz
 have HF := Lib.hid (Sh.shape_ok (v := (.mk k b ⟨neg, dg, ex⟩ s l m)) HQ.out (by decide) (rfl))
 go_enter Tryz.func66, Tryz.ntmps66
 go_wp2_with fail
 go_ret
 exact ⟨by rw [HF.out]; rfl, Boxed.start.below⟩

set_option linter.unusedVariables false in
set_option linter.unusedSimpArgs false in
set_option maxRecDepth 100000 in
set_option maxHeartbeats 2000000 in
theorem shape_number (nm : List UInt8) (hn : nm = [109, 105, 110, 105, 109, 117, 109] ∨ nm = [109, 97, 120, 105, 109, 117, 109]) (k : Int) (b neg : Bool) (dg : List UInt8) (ex : Int) (s : List UInt8) (l : List Vl) (m : List Js.Mem) (A : Option Addr) (e : Nat) (B : Option Addr) (d : Nat) (w : World) (hx : (Vl.mk k b ⟨neg, dg, ex⟩ s l m).In w.cell? (.agg #[.int .i64 k, .bool b, .bool neg, .string ⟨dg.toArray⟩, .int .i64 ex, .string ⟨s.toArray⟩, .slice A l.length e, .slice B m.length d])) (q1 : l.length ≤ e) (q2 : e ≤ maxLen) (q3 : m.length ≤ d) (q4 : d ≤ maxLen) (q5 : SlL w.cell? A l) (q6 : SlM w.cell? B m) (hsz : l.length ≤ 1000000) :
  Calls Tryz.prog 66 #[.string ⟨nm.toArray⟩, .agg #[.int .i64 k, .bool b, .bool neg, .string ⟨dg.toArray⟩, .int .i64 ex, .string ⟨s.toArray⟩, .slice A l.length e, .slice B m.length d]] w fun e w' => e = .returned (.int .i64 (Sh.shape nm (.mk k b ⟨neg, dg, ex⟩ s l m))) ∧ Below w.heap.size w w' := by
 have HQ := Lib.hid (show Sh.kw nm = 4 by rcases hn with rfl | rfl <;> decide)
 rcases hn with rfl | rfl
 all_goals
  unfold maxLen at q2 q4
  clear hx q5 q6 hsz
  by_cases h2 : k = 2
  ·have t2 : (k == 2) = true := by simpa using h2
   have HF := Lib.hid (Sh.shape_ok (v := (.mk k b ⟨neg, dg, ex⟩ s l m)) HQ.out (by decide) (decide_eq_true h2))
   clear h2
   go_enter Tryz.func66, Tryz.ntmps66
   go_wp2_with fail
   go_ret
   exact ⟨by rw [HF.out]; rfl, Boxed.start.below⟩
  ·have t2 : (k == 2) = false := by simpa using h2
   have HF := Lib.hid (Sh.shape_no (v := (.mk k b ⟨neg, dg, ex⟩ s l m)) HQ.out (by decide) (decide_eq_false h2))
   clear h2
   go_enter Tryz.func66, Tryz.ntmps66
   go_wp2_with fail
   go_ret
   exact ⟨by rw [HF.out]; rfl, Boxed.start.below⟩

set_option linter.unusedVariables false in
set_option linter.unusedSimpArgs false in
set_option maxRecDepth 100000 in
set_option maxHeartbeats 2000000 in
theorem shape_bool (nm : List UInt8) (hn : nm = [117, 110, 105, 113, 117, 101, 73, 116, 101, 109, 115]) (k : Int) (b neg : Bool) (dg : List UInt8) (ex : Int) (s : List UInt8) (l : List Vl) (m : List Js.Mem) (A : Option Addr) (e : Nat) (B : Option Addr) (d : Nat) (w : World) (hx : (Vl.mk k b ⟨neg, dg, ex⟩ s l m).In w.cell? (.agg #[.int .i64 k, .bool b, .bool neg, .string ⟨dg.toArray⟩, .int .i64 ex, .string ⟨s.toArray⟩, .slice A l.length e, .slice B m.length d])) (q1 : l.length ≤ e) (q2 : e ≤ maxLen) (q3 : m.length ≤ d) (q4 : d ≤ maxLen) (q5 : SlL w.cell? A l) (q6 : SlM w.cell? B m) (hsz : l.length ≤ 1000000) :
  Calls Tryz.prog 66 #[.string ⟨nm.toArray⟩, .agg #[.int .i64 k, .bool b, .bool neg, .string ⟨dg.toArray⟩, .int .i64 ex, .string ⟨s.toArray⟩, .slice A l.length e, .slice B m.length d]] w fun e w' => e = .returned (.int .i64 (Sh.shape nm (.mk k b ⟨neg, dg, ex⟩ s l m))) ∧ Below w.heap.size w w' := by
 have HQ := Lib.hid (show Sh.kw nm = 6 by rcases hn with rfl <;> decide)
 subst hn
 unfold maxLen at q2 q4
 clear hx q5 q6 hsz
 by_cases h1 : k = 1
 ·have t1 : (k == 1) = true := by simpa using h1
  have HF := Lib.hid (Sh.shape_ok (v := (.mk k b ⟨neg, dg, ex⟩ s l m)) HQ.out (by decide) (decide_eq_true h1))
  clear h1
  go_enter Tryz.func66, Tryz.ntmps66
  go_wp2_with fail
  go_ret
  exact ⟨by rw [HF.out]; rfl, Boxed.start.below⟩
 ·have t1 : (k == 1) = false := by simpa using h1
  have HF := Lib.hid (Sh.shape_no (v := (.mk k b ⟨neg, dg, ex⟩ s l m)) HQ.out (by decide) (decide_eq_false h1))
  clear h1
  go_enter Tryz.func66, Tryz.ntmps66
  go_wp2_with fail
  go_ret
  exact ⟨by rw [HF.out]; rfl, Boxed.start.below⟩

set_option linter.unusedVariables false in
set_option linter.unusedSimpArgs false in
set_option maxRecDepth 100000 in
set_option maxHeartbeats 2000000 in
theorem shape_ref (nm : List UInt8) (hn : nm = [36, 114, 101, 102]) (k : Int) (b neg : Bool) (dg : List UInt8) (ex : Int) (s : List UInt8) (l : List Vl) (m : List Js.Mem) (A : Option Addr) (e : Nat) (B : Option Addr) (d : Nat) (w : World) (hx : (Vl.mk k b ⟨neg, dg, ex⟩ s l m).In w.cell? (.agg #[.int .i64 k, .bool b, .bool neg, .string ⟨dg.toArray⟩, .int .i64 ex, .string ⟨s.toArray⟩, .slice A l.length e, .slice B m.length d])) (q1 : l.length ≤ e) (q2 : e ≤ maxLen) (q3 : m.length ≤ d) (q4 : d ≤ maxLen) (q5 : SlL w.cell? A l) (q6 : SlM w.cell? B m) (hsz : l.length ≤ 1000000) :
  Calls Tryz.prog 66 #[.string ⟨nm.toArray⟩, .agg #[.int .i64 k, .bool b, .bool neg, .string ⟨dg.toArray⟩, .int .i64 ex, .string ⟨s.toArray⟩, .slice A l.length e, .slice B m.length d]] w fun e w' => e = .returned (.int .i64 (Sh.shape nm (.mk k b ⟨neg, dg, ex⟩ s l m))) ∧ Below w.heap.size w w' := by
 have HQ := Lib.hid (show Sh.kw nm = 11 by rcases hn with rfl <;> decide)
 subst hn
 unfold maxLen at q2 q4
 clear hx q5 q6 hsz
 by_cases h3 : k = 3
 ·have t3 : (k == 3) = true := by simpa using h3
  have HF := Lib.hid (Sh.shape_ok (v := (.mk k b ⟨neg, dg, ex⟩ s l m)) HQ.out (by decide) (decide_eq_true h3))
  clear h3
  go_enter Tryz.func66, Tryz.ntmps66
  go_wp2_with fail
  go_ret
  exact ⟨by rw [HF.out]; rfl, Boxed.start.below⟩
 ·have t3 : (k == 3) = false := by simpa using h3
  have HF := Lib.hid (Sh.shape_no (v := (.mk k b ⟨neg, dg, ex⟩ s l m)) HQ.out (by decide) (decide_eq_false h3))
  clear h3
  go_enter Tryz.func66, Tryz.ntmps66
  go_wp2_with fail
  go_ret
  exact ⟨by rw [HF.out]; rfl, Boxed.start.below⟩

set_option linter.unusedVariables false in
set_option linter.unusedSimpArgs false in
set_option maxRecDepth 100000 in
set_option maxHeartbeats 2000000 in
theorem shape_count (nm : List UInt8) (hn : nm = [109, 105, 110, 76, 101, 110, 103, 116, 104] ∨ nm = [109, 97, 120, 76, 101, 110, 103, 116, 104] ∨ nm = [109, 105, 110, 73, 116, 101, 109, 115] ∨ nm = [109, 97, 120, 73, 116, 101, 109, 115]) (k : Int) (b neg : Bool) (dg : List UInt8) (ex : Int) (s : List UInt8) (l : List Vl) (m : List Js.Mem) (A : Option Addr) (e : Nat) (B : Option Addr) (d : Nat) (w : World) (hx : (Vl.mk k b ⟨neg, dg, ex⟩ s l m).In w.cell? (.agg #[.int .i64 k, .bool b, .bool neg, .string ⟨dg.toArray⟩, .int .i64 ex, .string ⟨s.toArray⟩, .slice A l.length e, .slice B m.length d])) (q1 : l.length ≤ e) (q2 : e ≤ maxLen) (q3 : m.length ≤ d) (q4 : d ≤ maxLen) (q5 : SlL w.cell? A l) (q6 : SlM w.cell? B m) (hsz : l.length ≤ 1000000) :
  Calls Tryz.prog 66 #[.string ⟨nm.toArray⟩, .agg #[.int .i64 k, .bool b, .bool neg, .string ⟨dg.toArray⟩, .int .i64 ex, .string ⟨s.toArray⟩, .slice A l.length e, .slice B m.length d]] w fun e w' => e = .returned (.int .i64 (Sh.shape nm (.mk k b ⟨neg, dg, ex⟩ s l m))) ∧ Below w.heap.size w w' := by
 have HQ := Lib.hid (show Sh.kw nm = 5 by rcases hn with rfl | rfl | rfl | rfl <;> decide)
 rcases hn with rfl | rfl | rfl | rfl
 all_goals
  unfold maxLen at q2 q4
  clear hx q5 q6 hsz
  have HWH := Lib.hid (fun W => refWhole_any neg dg ex W)
  obtain ⟨wb, hwb⟩ : ∃ wb, (dg.isEmpty || decide (0 ≤ ex)) = wb := ⟨_, rfl⟩
  rw [hwb] at HWH
  have HWB := Lib.hid hwb
  clear hwb
  go_enter Tryz.func66, Tryz.ntmps66
  go_wp2_with fail
  refine (HWH.out _).mono ?_
  rintro e1 w1 ⟨rfl, hb1⟩
  have HB1 := Lib.hid (Boxed.start.next hb1 : Boxed w k b neg dg ex s (.slice A l.length e) (.slice B m.length d) w1)
  clear hb1
  obtain ⟨f0, f1, f2, f3, f4, f5, f6, f7⟩ := HB1.out.cells
  by_cases h2 : k = 2
  ·have t2 : (k == 2) = true := by simpa using h2
   cases wb with
   | true =>
    cases neg with
    | false =>
     have HF := Lib.hid (Sh.shape_ok (v := (.mk k b ⟨false, dg, ex⟩ s l m)) HQ.out (by decide) (by simp only [Sh.okOf, decide_eq_true h2, HWB.out]; rfl))
     clear h2
     go_wp2_with fail
     go_ret
     exact ⟨by rw [HF.out]; rfl, HB1.out.below⟩
    | true =>
     have HF := Lib.hid (Sh.shape_no (v := (.mk k b ⟨true, dg, ex⟩ s l m)) HQ.out (by decide) (by simp only [Sh.okOf, Bool.not_true, Bool.and_false]))
     clear h2
     go_wp2_with fail
     go_ret
     exact ⟨by rw [HF.out]; rfl, HB1.out.below⟩
   | false =>
    have HF := Lib.hid (Sh.shape_no (v := (.mk k b ⟨neg, dg, ex⟩ s l m)) HQ.out (by decide) (by simp only [Sh.okOf, HWB.out, Bool.and_false, Bool.false_and]))
    clear h2
    go_wp2_with fail
    go_ret
    exact ⟨by rw [HF.out]; rfl, HB1.out.below⟩
  ·have t2 : (k == 2) = false := by simpa using h2
   have HF := Lib.hid (Sh.shape_no (v := (.mk k b ⟨neg, dg, ex⟩ s l m)) HQ.out (by decide) (by simp only [Sh.okOf, decide_eq_false h2, Bool.false_and]))
   clear h2
   go_wp2_with fail
   go_ret
   exact ⟨by rw [HF.out]; rfl, HB1.out.below⟩

set_option linter.unusedVariables false in
set_option linter.unusedSimpArgs false in
set_option maxRecDepth 100000 in
set_option maxHeartbeats 2000000 in
theorem shape_texts (nm : List UInt8) (hn : nm = [114, 101, 113, 117, 105, 114, 101, 100]) (k : Int) (b neg : Bool) (dg : List UInt8) (ex : Int) (s : List UInt8) (l : List Vl) (m : List Js.Mem) (A : Option Addr) (e : Nat) (B : Option Addr) (d : Nat) (w : World) (hx : (Vl.mk k b ⟨neg, dg, ex⟩ s l m).In w.cell? (.agg #[.int .i64 k, .bool b, .bool neg, .string ⟨dg.toArray⟩, .int .i64 ex, .string ⟨s.toArray⟩, .slice A l.length e, .slice B m.length d])) (q1 : l.length ≤ e) (q2 : e ≤ maxLen) (q3 : m.length ≤ d) (q4 : d ≤ maxLen) (q5 : SlL w.cell? A l) (q6 : SlM w.cell? B m) (hsz : l.length ≤ 1000000) :
  Calls Tryz.prog 66 #[.string ⟨nm.toArray⟩, .agg #[.int .i64 k, .bool b, .bool neg, .string ⟨dg.toArray⟩, .int .i64 ex, .string ⟨s.toArray⟩, .slice A l.length e, .slice B m.length d]] w fun e w' => e = .returned (.int .i64 (Sh.shape nm (.mk k b ⟨neg, dg, ex⟩ s l m))) ∧ Below w.heap.size w w' := by
 have HQ := Lib.hid (show Sh.kw nm = 7 by rcases hn with rfl <;> decide)
 subst hn
 have HC := Lib.hid (refTexts_any (.mk k b ⟨neg, dg, ex⟩ s l m) _ (w.alloc (.cells #[.int .i64 k, .bool b, .bool neg, .string ⟨dg.toArray⟩, .int .i64 ex, .string ⟨s.toArray⟩, .slice A l.length e, .slice B m.length d] 31)) (In.keep (le_alloc w _) _ _ hx))
 unfold maxLen at q2 q4
 clear hx q5 q6 hsz
 obtain ⟨cb, hcb⟩ : ∃ cb, Sh.texts (.mk k b ⟨neg, dg, ex⟩ s l m) = cb := ⟨_, rfl⟩
 rw [hcb] at HC
 have HCB := Lib.hid hcb
 clear hcb
 go_enter Tryz.func66, Tryz.ntmps66
 go_wp2_with fail
 refine HC.out.mono ?_
 rintro e1 w1 ⟨rfl, hb1⟩
 have HB1 := Lib.hid (Boxed.start.next hb1 : Boxed w k b neg dg ex s (.slice A l.length e) (.slice B m.length d) w1)
 clear hb1
 cases cb with
 | true =>
  have HF := Lib.hid (Sh.shape_ok (v := (.mk k b ⟨neg, dg, ex⟩ s l m)) HQ.out (by decide) (HCB.out))
  go_wp2_with fail
  go_ret
  exact ⟨by rw [HF.out]; rfl, HB1.out.below⟩
 | false =>
  have HF := Lib.hid (Sh.shape_no (v := (.mk k b ⟨neg, dg, ex⟩ s l m)) HQ.out (by decide) (HCB.out))
  go_wp2_with fail
  go_ret
  exact ⟨by rw [HF.out]; rfl, HB1.out.below⟩

set_option linter.unusedVariables false in
set_option linter.unusedSimpArgs false in
set_option maxRecDepth 100000 in
set_option maxHeartbeats 2000000 in
theorem shape_schema (nm : List UInt8) (hn : nm = [105, 116, 101, 109, 115] ∨ nm = [97, 100, 100, 105, 116, 105, 111, 110, 97, 108, 80, 114, 111, 112, 101, 114, 116, 105, 101, 115] ∨ nm = [110, 111, 116]) (k : Int) (b neg : Bool) (dg : List UInt8) (ex : Int) (s : List UInt8) (l : List Vl) (m : List Js.Mem) (A : Option Addr) (e : Nat) (B : Option Addr) (d : Nat) (w : World) (hx : (Vl.mk k b ⟨neg, dg, ex⟩ s l m).In w.cell? (.agg #[.int .i64 k, .bool b, .bool neg, .string ⟨dg.toArray⟩, .int .i64 ex, .string ⟨s.toArray⟩, .slice A l.length e, .slice B m.length d])) (q1 : l.length ≤ e) (q2 : e ≤ maxLen) (q3 : m.length ≤ d) (q4 : d ≤ maxLen) (q5 : SlL w.cell? A l) (q6 : SlM w.cell? B m) (hsz : l.length ≤ 1000000) :
  Calls Tryz.prog 66 #[.string ⟨nm.toArray⟩, .agg #[.int .i64 k, .bool b, .bool neg, .string ⟨dg.toArray⟩, .int .i64 ex, .string ⟨s.toArray⟩, .slice A l.length e, .slice B m.length d]] w fun e w' => e = .returned (.int .i64 (Sh.shape nm (.mk k b ⟨neg, dg, ex⟩ s l m))) ∧ Below w.heap.size w w' := by
 have HQ := Lib.hid (show Sh.kw nm = 8 by rcases hn with rfl | rfl | rfl <;> decide)
 rcases hn with rfl | rfl | rfl
 all_goals
  have HC := Lib.hid (refSchema_any (.mk k b ⟨neg, dg, ex⟩ s l m) _ (w.alloc (.cells #[.int .i64 k, .bool b, .bool neg, .string ⟨dg.toArray⟩, .int .i64 ex, .string ⟨s.toArray⟩, .slice A l.length e, .slice B m.length d] 31)) (In.keep (le_alloc w _) _ _ hx))
  unfold maxLen at q2 q4
  clear hx q5 q6 hsz
  obtain ⟨cb, hcb⟩ : ∃ cb, Sh.isSch (.mk k b ⟨neg, dg, ex⟩ s l m) = cb := ⟨_, rfl⟩
  rw [hcb] at HC
  have HCB := Lib.hid hcb
  clear hcb
  go_enter Tryz.func66, Tryz.ntmps66
  go_wp2_with fail
  refine HC.out.mono ?_
  rintro e1 w1 ⟨rfl, hb1⟩
  have HB1 := Lib.hid (Boxed.start.next hb1 : Boxed w k b neg dg ex s (.slice A l.length e) (.slice B m.length d) w1)
  clear hb1
  cases cb with
  | true =>
   have HF := Lib.hid (Sh.shape_ok (v := (.mk k b ⟨neg, dg, ex⟩ s l m)) HQ.out (by decide) (HCB.out))
   go_wp2_with fail
   go_ret
   exact ⟨by rw [HF.out]; rfl, HB1.out.below⟩
  | false =>
   have HF := Lib.hid (Sh.shape_no (v := (.mk k b ⟨neg, dg, ex⟩ s l m)) HQ.out (by decide) (HCB.out))
   go_wp2_with fail
   go_ret
   exact ⟨by rw [HF.out]; rfl, HB1.out.below⟩

set_option linter.unusedVariables false in
set_option linter.unusedSimpArgs false in
set_option maxRecDepth 100000 in
set_option maxHeartbeats 2000000 in
theorem shape_members (nm : List UInt8) (hn : nm = [112, 114, 111, 112, 101, 114, 116, 105, 101, 115] ∨ nm = [36, 100, 101, 102, 115]) (k : Int) (b neg : Bool) (dg : List UInt8) (ex : Int) (s : List UInt8) (l : List Vl) (m : List Js.Mem) (A : Option Addr) (e : Nat) (B : Option Addr) (d : Nat) (w : World) (hx : (Vl.mk k b ⟨neg, dg, ex⟩ s l m).In w.cell? (.agg #[.int .i64 k, .bool b, .bool neg, .string ⟨dg.toArray⟩, .int .i64 ex, .string ⟨s.toArray⟩, .slice A l.length e, .slice B m.length d])) (q1 : l.length ≤ e) (q2 : e ≤ maxLen) (q3 : m.length ≤ d) (q4 : d ≤ maxLen) (q5 : SlL w.cell? A l) (q6 : SlM w.cell? B m) (hsz : l.length ≤ 1000000) :
  Calls Tryz.prog 66 #[.string ⟨nm.toArray⟩, .agg #[.int .i64 k, .bool b, .bool neg, .string ⟨dg.toArray⟩, .int .i64 ex, .string ⟨s.toArray⟩, .slice A l.length e, .slice B m.length d]] w fun e w' => e = .returned (.int .i64 (Sh.shape nm (.mk k b ⟨neg, dg, ex⟩ s l m))) ∧ Below w.heap.size w w' := by
 have HQ := Lib.hid (show Sh.kw nm = 9 by rcases hn with rfl | rfl <;> decide)
 rcases hn with rfl | rfl
 all_goals
  have HC := Lib.hid (refAll_any m B d (w.alloc (.cells #[.int .i64 k, .bool b, .bool neg, .string ⟨dg.toArray⟩, .int .i64 ex, .string ⟨s.toArray⟩, .slice A l.length e, .slice B m.length d] 31)) (q6.keep (le_alloc w _)) q3 q4)
  unfold maxLen at q2 q4
  clear hx q5 q6 hsz
  obtain ⟨cb, hcb⟩ : ∃ cb, Sh.allM m = cb := ⟨_, rfl⟩
  rw [hcb] at HC
  have HCB := Lib.hid hcb
  clear hcb
  go_enter Tryz.func66, Tryz.ntmps66
  go_wp2_with fail
  refine HC.out.mono ?_
  rintro e1 w1 ⟨rfl, hb1⟩
  have HB1 := Lib.hid (Boxed.start.next hb1 : Boxed w k b neg dg ex s (.slice A l.length e) (.slice B m.length d) w1)
  clear hb1
  obtain ⟨f0, f1, f2, f3, f4, f5, f6, f7⟩ := HB1.out.cells
  by_cases h5 : k = 5
  ·have t5 : (k == 5) = true := by simpa using h5
   cases cb with
   | true =>
    have HF := Lib.hid (Sh.shape_ok (v := (.mk k b ⟨neg, dg, ex⟩ s l m)) HQ.out (by decide) (by simp only [Sh.okOf, decide_eq_true h5, HCB.out]; rfl))
    clear h5
    go_wp2_with fail
    go_ret
    exact ⟨by rw [HF.out]; rfl, HB1.out.below⟩
   | false =>
    have HF := Lib.hid (Sh.shape_no (v := (.mk k b ⟨neg, dg, ex⟩ s l m)) HQ.out (by decide) (by simp only [Sh.okOf, HCB.out, Bool.and_false]))
    clear h5
    go_wp2_with fail
    go_ret
    exact ⟨by rw [HF.out]; rfl, HB1.out.below⟩
  ·have t5 : (k == 5) = false := by simpa using h5
   have HF := Lib.hid (Sh.shape_no (v := (.mk k b ⟨neg, dg, ex⟩ s l m)) HQ.out (by decide) (by simp only [Sh.okOf, decide_eq_false h5, Bool.false_and]))
   clear h5
   go_wp2_with fail
   go_ret
   exact ⟨by rw [HF.out]; rfl, HB1.out.below⟩

set_option linter.unusedVariables false in
set_option linter.unusedSimpArgs false in
set_option maxRecDepth 100000 in
set_option maxHeartbeats 2000000 in
theorem shape_list (nm : List UInt8) (hn : nm = [97, 108, 108, 79, 102] ∨ nm = [97, 110, 121, 79, 102] ∨ nm = [111, 110, 101, 79, 102]) (k : Int) (b neg : Bool) (dg : List UInt8) (ex : Int) (s : List UInt8) (l : List Vl) (m : List Js.Mem) (A : Option Addr) (e : Nat) (B : Option Addr) (d : Nat) (w : World) (hx : (Vl.mk k b ⟨neg, dg, ex⟩ s l m).In w.cell? (.agg #[.int .i64 k, .bool b, .bool neg, .string ⟨dg.toArray⟩, .int .i64 ex, .string ⟨s.toArray⟩, .slice A l.length e, .slice B m.length d])) (q1 : l.length ≤ e) (q2 : e ≤ maxLen) (q3 : m.length ≤ d) (q4 : d ≤ maxLen) (q5 : SlL w.cell? A l) (q6 : SlM w.cell? B m) (hsz : l.length ≤ 1000000) :
  Calls Tryz.prog 66 #[.string ⟨nm.toArray⟩, .agg #[.int .i64 k, .bool b, .bool neg, .string ⟨dg.toArray⟩, .int .i64 ex, .string ⟨s.toArray⟩, .slice A l.length e, .slice B m.length d]] w fun e w' => e = .returned (.int .i64 (Sh.shape nm (.mk k b ⟨neg, dg, ex⟩ s l m))) ∧ Below w.heap.size w w' := by
 have HKI := Lib.hid (refKids_list (fun q9 => q9 < (w.alloc (.cells #[.int .i64 k, .bool b, .bool neg, .string ⟨dg.toArray⟩, .int .i64 ex, .string ⟨s.toArray⟩, .slice A l.length e, .slice B m.length d] 31)).heap.size) nm hn k b ⟨neg, dg, ex⟩ s l m A e B d (w.alloc (.cells #[.int .i64 k, .bool b, .bool neg, .string ⟨dg.toArray⟩, .int .i64 ex, .string ⟨s.toArray⟩, .slice A l.length e, .slice B m.length d] 31)) (fun _ h => h) q1 q2 ((q5.keep (le_alloc w _)).keep (fun _ _ hp => on_some.2 ⟨World.block_lt_of_cell? _ _ hp, hp⟩)) hsz)
 have HAL := Lib.hid (fun (A2 : Option Addr) (c2 : Nat) (W : World) (h : SlM W.cell? A2 (Sh.numbered l)) (h1 : (Sh.numbered l).length ≤ c2) (h2 : c2 ≤ maxLen) => refAll_any (Sh.numbered l) A2 c2 W h h1 h2)
 rw [Sh.allM_numbered] at HAL
 unfold maxLen at q2 q4
 clear hx q5 q6 hsz
 obtain ⟨cb, hcb⟩ : ∃ cb, Sh.allL l = cb := ⟨_, rfl⟩
 rw [hcb] at HAL
 have HCB := Lib.hid hcb
 clear hcb
 have HQ := Lib.hid (show Sh.kw nm = 10 by rcases hn with rfl | rfl | rfl <;> decide)
 rcases hn with rfl | rfl | rfl
 all_goals
  go_enter Tryz.func66, Tryz.ntmps66
  go_wp2_with fail
  refine HKI.out.mono ?_
  rintro e1 w1 ⟨A2, c2, rfl, hs2, hc2, hm2, hb1⟩
  have HB0 := Lib.hid (Boxed.start.next hb1 : Boxed w k b neg dg ex s (.slice A l.length e) (.slice B m.length d) w1)
  have HA2 := Lib.hid (HAL.out A2 c2 w1 (hs2.keep (on_all _ _)) hc2 hm2)
  clear hb1 hs2 hc2 hm2 HAL HKI
  go_wp2_with fail
  refine HA2.out.mono ?_
  rintro e2 w2 ⟨rfl, hb2⟩
  have HB1 := Lib.hid (HB0.out.next hb2)
  clear hb2 HA2 HB0
  obtain ⟨f0, f1, f2, f3, f4, f5, f6, f7⟩ := HB1.out.cells
  by_cases h4 : k = 4
  ·have t4 : (k == 4) = true := by simpa using h4
   by_cases hl : 0 < l.length
   ·have tl : decide ((0 : Int) < (l.length : Int)) = true := decide_eq_true (by omega)
    have tn : decide (0 < l.length) = true := decide_eq_true hl
    cases cb with
    | true =>
     have HF := Lib.hid (Sh.shape_ok (v := (.mk k b ⟨neg, dg, ex⟩ s l m)) HQ.out (by decide) (by simp only [Sh.okOf, decide_eq_true h4, decide_eq_true hl, HCB.out]; rfl))
     clear h4 hl
     go_wp2_with fail
     go_ret
     exact ⟨by rw [HF.out]; rfl, HB1.out.below⟩
    | false =>
     have HF := Lib.hid (Sh.shape_no (v := (.mk k b ⟨neg, dg, ex⟩ s l m)) HQ.out (by decide) (by simp only [Sh.okOf, HCB.out, Bool.and_false]))
     clear h4 hl
     go_wp2_with fail
     go_ret
     exact ⟨by rw [HF.out]; rfl, HB1.out.below⟩
   ·have tl : decide ((0 : Int) < (l.length : Int)) = false := decide_eq_false (by omega)
    have tn : decide (0 < l.length) = false := decide_eq_false hl
    have HF := Lib.hid (Sh.shape_no (v := (.mk k b ⟨neg, dg, ex⟩ s l m)) HQ.out (by decide) (by simp only [Sh.okOf, decide_eq_false hl, Bool.and_false, Bool.false_and]))
    clear h4 hl
    go_wp2_with fail
    go_ret
    exact ⟨by rw [HF.out]; rfl, HB1.out.below⟩
  ·have t4 : (k == 4) = false := by simpa using h4
   have HF := Lib.hid (Sh.shape_no (v := (.mk k b ⟨neg, dg, ex⟩ s l m)) HQ.out (by decide) (by simp only [Sh.okOf, decide_eq_false h4, Bool.false_and]))
   clear h4
   go_wp2_with fail
   go_ret
   exact ⟨by rw [HF.out]; rfl, HB1.out.below⟩

set_option linter.unusedVariables false in
set_option linter.unusedSimpArgs false in
set_option maxRecDepth 100000 in
set_option maxHeartbeats 2000000 in
theorem shape_type (nm : List UInt8) (hn : nm = [116, 121, 112, 101]) (k : Int) (b neg : Bool) (dg : List UInt8) (ex : Int) (s : List UInt8) (l : List Vl) (m : List Js.Mem) (A : Option Addr) (e : Nat) (B : Option Addr) (d : Nat) (w : World) (hx : (Vl.mk k b ⟨neg, dg, ex⟩ s l m).In w.cell? (.agg #[.int .i64 k, .bool b, .bool neg, .string ⟨dg.toArray⟩, .int .i64 ex, .string ⟨s.toArray⟩, .slice A l.length e, .slice B m.length d])) (q1 : l.length ≤ e) (q2 : e ≤ maxLen) (q3 : m.length ≤ d) (q4 : d ≤ maxLen) (q5 : SlL w.cell? A l) (q6 : SlM w.cell? B m) (hsz : l.length ≤ 1000000) :
  Calls Tryz.prog 66 #[.string ⟨nm.toArray⟩, .agg #[.int .i64 k, .bool b, .bool neg, .string ⟨dg.toArray⟩, .int .i64 ex, .string ⟨s.toArray⟩, .slice A l.length e, .slice B m.length d]] w fun e w' => e = .returned (.int .i64 (Sh.shape nm (.mk k b ⟨neg, dg, ex⟩ s l m))) ∧ Below w.heap.size w w' := by
 have HQ := Lib.hid (show Sh.kw nm = 1 by subst hn; decide)
 subst hn
 have HC := Lib.hid (refTexts_any (.mk k b ⟨neg, dg, ex⟩ s l m) _ (w.alloc (.cells #[.int .i64 k, .bool b, .bool neg, .string ⟨dg.toArray⟩, .int .i64 ex, .string ⟨s.toArray⟩, .slice A l.length e, .slice B m.length d] 31)) (In.keep (le_alloc w _) _ _ hx))
 have HTV := Lib.hid (fun (W : World) (h : Cl.le w.cell? W.cell?) => refTyped_any (.mk k b ⟨neg, dg, ex⟩ s l m) _ W (In.keep h _ _ hx))
 have H5 := Lib.hid q5
 unfold maxLen at q2 q4
 clear hx q5 q6 hsz
 obtain ⟨nb, hnb⟩ : ∃ nb, Sh.isName (.mk k b ⟨neg, dg, ex⟩ s l m) = nb := ⟨_, rfl⟩
 rw [hnb] at HTV
 have HNB := Lib.hid hnb
 clear hnb
 have hts : Sh.texts (.mk k b ⟨neg, dg, ex⟩ s l m) = (Sh.textsL l && decide (k = 4)) := rfl
 obtain ⟨tb, htb⟩ : ∃ tb, Sh.texts (.mk k b ⟨neg, dg, ex⟩ s l m) = tb := ⟨_, rfl⟩
 rw [htb] at HC
 have HTB := Lib.hid (hts.symm.trans htb)
 clear hts htb
 go_enter Tryz.func66, Tryz.ntmps66
 go_wp2_with fail
 refine HC.out.mono ?_
 rintro e1 w1 ⟨rfl, hb1⟩
 have HB1 := Lib.hid (Boxed.start.next hb1 : Boxed w k b neg dg ex s (.slice A l.length e) (.slice B m.length d) w1)
 clear hb1
 obtain ⟨c0, hc0⟩ : ∃ c0, (tb && decide (0 < l.length)) = c0 := ⟨_, rfl⟩
 have HC0 := Lib.hid (show (Sh.textsL l && decide (k = 4) && decide (0 < l.length)) = c0 by rw [HTB.out]; exact hc0)
 have HZ := Lib.hid (show (c0 && Sh.namesL (l.take 0)) = c0 by rw [List.take_zero]; exact Bool.and_true _)
 have HCC := Lib.hid hc0
 clear hc0
 obtain ⟨f0, f1, f2, f3, f4, f5, f6, f7⟩ := HB1.out.cells
 go_upto_region 6 with (fail)
 go_cut [5] from 5 to 5 (fun v5 wc => v5 = .bool c0 ∧ wc = w1)
 case first =>
  cases tb with
  | false =>
   have HV := Lib.hid (show c0 = false from HCC.out.symm)
   go_wp2_with fail
   go_meet
   case rel => exact ⟨by rw [HV.out], rfl⟩
  | true =>
   by_cases hl : 0 < l.length
   ·have tl : decide ((0 : Int) < (l.length : Int)) = true := decide_eq_true (by omega)
    have tn : decide (0 < l.length) = true := decide_eq_true hl
    have HV := Lib.hid (show c0 = true by rw [← HCC.out, decide_eq_true hl]; rfl)
    clear hl
    go_wp2_with fail
    go_meet
    case rel => exact ⟨by rw [HV.out], rfl⟩
   ·have tl : decide ((0 : Int) < (l.length : Int)) = false := decide_eq_false (by omega)
    have tn : decide (0 < l.length) = false := decide_eq_false hl
    have HV := Lib.hid (show c0 = false by rw [← HCC.out, decide_eq_false hl]; rfl)
    clear hl
    go_wp2_with fail
    go_meet
    case rel => exact ⟨by rw [HV.out], rfl⟩
 case rest =>
 obtain ⟨rfl, rfl⟩ := hcut
 go_wp2_with fail
 have HXX := Lib.hid HB1.out
 clear HB1
 go_loopw [5, 7] (fun o5 i7 wr => ∃ j : Nat, j ≤ l.length ∧ o5 = .bool (c0 && Sh.namesL (l.take j)) ∧ i7 = .int .i64 j ∧ Boxed w k b neg dg ex s (.slice A l.length e) (.slice B m.length d) wr) (fun _ i _ => l.length - (intOf i).toNat)
 case atStart => exact ⟨0, by omega, by rw [HZ.out], rfl, HXX.out⟩
 case round =>
  obtain ⟨j, hj, rfl, rfl, hW⟩ := hrel
  have HW := Lib.hid hW
  obtain ⟨f0, f1, f2, f3, f4, f5, f6, f7⟩ := hW.cells
  clear hW HXX
  by_cases hlt : j < l.length
  ·obtain ⟨g, o, y, rfl, hy, hc⟩ := H5.out j _ (List.getElem?_eq_getElem hlt)
   obtain ⟨k1, b1, n1, g1, x1, s1, A1, l1, p1, B1, m1, d1, rfl⟩ := In.cells hy
   have HTY := Lib.hid (refTyped_any (l[j]) _ wr (In.keep HW.out.le _ _ hy))
   obtain ⟨e0, e1, e2, e3, e4, e5, e6, e7⟩ := (hc.keep HW.out.le).eight
   have hgl := World.block_lt_of_cell? _ _ e0
   have hjj : (j : Int) < (l.length : Int) := by omega
   have HNX := Lib.hid (Sh.namesL_next hlt)
   clear hy hc
   obtain ⟨ib, hib⟩ : ∃ ib, Sh.isName (l[j]) = ib := ⟨_, rfl⟩
   rw [hib] at HTY HNX
   clear hib
   obtain ⟨ob, hob⟩ : ∃ ob, (c0 && Sh.namesL (l.take j)) = ob := ⟨_, rfl⟩
   have HOB := Lib.hid hob
   rw [hob]
   clear hob
   go_wp2_with fail
   refine HTY.out.mono ?_
   rintro e2 w2 ⟨rfl, hb2⟩
   have HW2 := Lib.hid (HW.out.next hb2)
   have HO2 := Lib.hid (show (c0 && Sh.namesL (l.take (j + 1))) = (ob && ib) by rw [HNX.out, ← Bool.and_assoc, HOB.out])
   clear hb2 HTY HNX HOB
   cases ob <;> cases ib
   all_goals
    go_wp2_with fail
    go_roundw
    case rel => exact ⟨j + 1, by omega, by first | (rw [HO2.out]; done) | (rw [HO2.out]; rfl), by go_num, HW2.out⟩
    case measure => simp [intOf]; omega
  ·obtain rfl : j = l.length := by omega
   have HTY := Lib.hid (HTV.out wr HW.out.le)
   obtain ⟨ob, hob⟩ : ∃ ob, (c0 && Sh.namesL (l.take l.length)) = ob := ⟨_, rfl⟩
   have HOB := Lib.hid (show (c0 && Sh.namesL l) = ob by rw [List.take_length] at hob; exact hob)
   rw [hob]
   clear hob
   go_wp2_with fail
   refine HTY.out.mono ?_
   rintro e2 w2 ⟨rfl, hb2⟩
   have HB2 := Lib.hid (HW.out.next hb2).below
   clear hb2 HTY
   have HIS := Lib.hid (show Sh.okOf 1 (.mk k b ⟨neg, dg, ex⟩ s l m) = (ob || nb) by rw [← HOB.out, ← HNB.out, ← HC0.out]; rfl)
   cases ob <;> cases nb
   ·have HF := Lib.hid (Sh.shape_no (v := (.mk k b ⟨neg, dg, ex⟩ s l m)) HQ.out (by decide) HIS.out)
    go_wp2_with fail
    go_ret
    exact ⟨by rw [HF.out]; rfl, HB2.out⟩
   ·have HF := Lib.hid (Sh.shape_ok (v := (.mk k b ⟨neg, dg, ex⟩ s l m)) HQ.out (by decide) HIS.out)
    go_wp2_with fail
    go_ret
    exact ⟨by rw [HF.out]; rfl, HB2.out⟩
   ·have HF := Lib.hid (Sh.shape_ok (v := (.mk k b ⟨neg, dg, ex⟩ s l m)) HQ.out (by decide) HIS.out)
    go_wp2_with fail
    go_ret
    exact ⟨by rw [HF.out]; rfl, HB2.out⟩
   ·have HF := Lib.hid (Sh.shape_ok (v := (.mk k b ⟨neg, dg, ex⟩ s l m)) HQ.out (by decide) HIS.out)
    go_wp2_with fail
    go_ret
    exact ⟨by rw [HF.out]; rfl, HB2.out⟩

set_option linter.unusedVariables false in
set_option linter.unusedSimpArgs false in
set_option maxRecDepth 100000 in
set_option maxHeartbeats 2000000 in
theorem shape_none (nm : List UInt8) (hn : ∀ p ∈ Sh.kws, ¬ p.1 = nm) (k : Int) (b neg : Bool) (dg : List UInt8) (ex : Int) (s : List UInt8) (l : List Vl) (m : List Js.Mem) (A : Option Addr) (e : Nat) (B : Option Addr) (d : Nat) (w : World) (hx : (Vl.mk k b ⟨neg, dg, ex⟩ s l m).In w.cell? (.agg #[.int .i64 k, .bool b, .bool neg, .string ⟨dg.toArray⟩, .int .i64 ex, .string ⟨s.toArray⟩, .slice A l.length e, .slice B m.length d])) (q1 : l.length ≤ e) (q2 : e ≤ maxLen) (q3 : m.length ≤ d) (q4 : d ≤ maxLen) (q5 : SlL w.cell? A l) (q6 : SlM w.cell? B m) (hsz : l.length ≤ 1000000) :
  Calls Tryz.prog 66 #[.string ⟨nm.toArray⟩, .agg #[.int .i64 k, .bool b, .bool neg, .string ⟨dg.toArray⟩, .int .i64 ex, .string ⟨s.toArray⟩, .slice A l.length e, .slice B m.length d]] w fun e w' => e = .returned (.int .i64 (Sh.shape nm (.mk k b ⟨neg, dg, ex⟩ s l m))) ∧ Below w.heap.size w w' := by
 have HF := Lib.hid (show Sh.shape nm (.mk k b ⟨neg, dg, ex⟩ s l m) = 10 from if_pos (Sh.kw_none hn))
 have e0 : (nm == [116, 121, 112, 101]) = false := by rw [beq_eq_false_iff_ne]; exact fun e => hn ([116, 121, 112, 101], 1) (by decide) e.symm
 have e1 : (nm == [101, 110, 117, 109]) = false := by rw [beq_eq_false_iff_ne]; exact fun e => hn ([101, 110, 117, 109], 2) (by decide) e.symm
 have e2 : (nm == [99, 111, 110, 115, 116]) = false := by rw [beq_eq_false_iff_ne]; exact fun e => hn ([99, 111, 110, 115, 116], 3) (by decide) e.symm
 have e3 : (nm == [109, 105, 110, 105, 109, 117, 109]) = false := by rw [beq_eq_false_iff_ne]; exact fun e => hn ([109, 105, 110, 105, 109, 117, 109], 4) (by decide) e.symm
 have e4 : (nm == [109, 97, 120, 105, 109, 117, 109]) = false := by rw [beq_eq_false_iff_ne]; exact fun e => hn ([109, 97, 120, 105, 109, 117, 109], 4) (by decide) e.symm
 have e5 : (nm == [109, 105, 110, 76, 101, 110, 103, 116, 104]) = false := by rw [beq_eq_false_iff_ne]; exact fun e => hn ([109, 105, 110, 76, 101, 110, 103, 116, 104], 5) (by decide) e.symm
 have e6 : (nm == [109, 97, 120, 76, 101, 110, 103, 116, 104]) = false := by rw [beq_eq_false_iff_ne]; exact fun e => hn ([109, 97, 120, 76, 101, 110, 103, 116, 104], 5) (by decide) e.symm
 have e7 : (nm == [109, 105, 110, 73, 116, 101, 109, 115]) = false := by rw [beq_eq_false_iff_ne]; exact fun e => hn ([109, 105, 110, 73, 116, 101, 109, 115], 5) (by decide) e.symm
 have e8 : (nm == [109, 97, 120, 73, 116, 101, 109, 115]) = false := by rw [beq_eq_false_iff_ne]; exact fun e => hn ([109, 97, 120, 73, 116, 101, 109, 115], 5) (by decide) e.symm
 have e9 : (nm == [117, 110, 105, 113, 117, 101, 73, 116, 101, 109, 115]) = false := by rw [beq_eq_false_iff_ne]; exact fun e => hn ([117, 110, 105, 113, 117, 101, 73, 116, 101, 109, 115], 6) (by decide) e.symm
 have e10 : (nm == [114, 101, 113, 117, 105, 114, 101, 100]) = false := by rw [beq_eq_false_iff_ne]; exact fun e => hn ([114, 101, 113, 117, 105, 114, 101, 100], 7) (by decide) e.symm
 have e11 : (nm == [105, 116, 101, 109, 115]) = false := by rw [beq_eq_false_iff_ne]; exact fun e => hn ([105, 116, 101, 109, 115], 8) (by decide) e.symm
 have e12 : (nm == [97, 100, 100, 105, 116, 105, 111, 110, 97, 108, 80, 114, 111, 112, 101, 114, 116, 105, 101, 115]) = false := by rw [beq_eq_false_iff_ne]; exact fun e => hn ([97, 100, 100, 105, 116, 105, 111, 110, 97, 108, 80, 114, 111, 112, 101, 114, 116, 105, 101, 115], 8) (by decide) e.symm
 have e13 : (nm == [110, 111, 116]) = false := by rw [beq_eq_false_iff_ne]; exact fun e => hn ([110, 111, 116], 8) (by decide) e.symm
 have e14 : (nm == [112, 114, 111, 112, 101, 114, 116, 105, 101, 115]) = false := by rw [beq_eq_false_iff_ne]; exact fun e => hn ([112, 114, 111, 112, 101, 114, 116, 105, 101, 115], 9) (by decide) e.symm
 have e15 : (nm == [36, 100, 101, 102, 115]) = false := by rw [beq_eq_false_iff_ne]; exact fun e => hn ([36, 100, 101, 102, 115], 9) (by decide) e.symm
 have e16 : (nm == [97, 108, 108, 79, 102]) = false := by rw [beq_eq_false_iff_ne]; exact fun e => hn ([97, 108, 108, 79, 102], 10) (by decide) e.symm
 have e17 : (nm == [97, 110, 121, 79, 102]) = false := by rw [beq_eq_false_iff_ne]; exact fun e => hn ([97, 110, 121, 79, 102], 10) (by decide) e.symm
 have e18 : (nm == [111, 110, 101, 79, 102]) = false := by rw [beq_eq_false_iff_ne]; exact fun e => hn ([111, 110, 101, 79, 102], 10) (by decide) e.symm
 have e19 : (nm == [36, 114, 101, 102]) = false := by rw [beq_eq_false_iff_ne]; exact fun e => hn ([36, 114, 101, 102], 11) (by decide) e.symm
 unfold maxLen at q2 q4
 clear hx q5 q6 hsz hn
 go_enter Tryz.func66, Tryz.ntmps66
 go_wp2_with fail
 go_ret
 exact ⟨by rw [HF.out]; rfl, Boxed.start.below⟩

theorem refShape_any (nm : List UInt8) (v : Vl) (x : Value) (w : World) (hx : v.In w.cell? x) (hsz : v.size ≤ 1000000) :
  Calls Tryz.prog 66 #[.string ⟨nm.toArray⟩, x] w fun e w' => e = .returned (.int .i64 (Sh.shape nm v)) ∧ Below w.heap.size w w' := by
 obtain ⟨k, b, ⟨neg, dg, ex⟩, s, l, m⟩ := v
 obtain ⟨A, e, B, d, rfl, q1, q2, q3, q4, q5, q6⟩ := In.form hx
 have hl : l.length ≤ 1000000 := by
  have h : l.length ≤ sizeL l := sizeL_len l
  simp only [Vl.size] at hsz; omega
 by_cases hn : ∀ p ∈ Sh.kws, ¬ p.1 = nm
 ·exact shape_none nm hn k b neg dg ex s l m A e B d w hx q1 q2 q3 q4 q5 q6 hl
 ·have hm : ∃ p ∈ Sh.kws, p.1 = nm := by
   apply Classical.byContradiction
   intro h
   exact hn (fun p hp e => h ⟨p, hp, e⟩)
  obtain ⟨p, hp, rfl⟩ := hm
  simp only [Sh.kws, List.mem_cons, List.not_mem_nil, or_false] at hp
  rcases hp with rfl | rfl | rfl | rfl | rfl | rfl | rfl | rfl | rfl | rfl | rfl | rfl | rfl | rfl | rfl | rfl | rfl | rfl | rfl | rfl
  ·exact shape_type _ (rfl) k b neg dg ex s l m A e B d w hx q1 q2 q3 q4 q5 q6 hl
  ·exact shape_enum _ (rfl) k b neg dg ex s l m A e B d w hx q1 q2 q3 q4 q5 q6 hl
  ·exact shape_const _ (rfl) k b neg dg ex s l m A e B d w hx q1 q2 q3 q4 q5 q6 hl
  ·exact shape_number _ (.inl rfl) k b neg dg ex s l m A e B d w hx q1 q2 q3 q4 q5 q6 hl
  ·exact shape_number _ (.inr (rfl)) k b neg dg ex s l m A e B d w hx q1 q2 q3 q4 q5 q6 hl
  ·exact shape_count _ (.inl rfl) k b neg dg ex s l m A e B d w hx q1 q2 q3 q4 q5 q6 hl
  ·exact shape_count _ (.inr (.inl rfl)) k b neg dg ex s l m A e B d w hx q1 q2 q3 q4 q5 q6 hl
  ·exact shape_count _ (.inr (.inr (.inl rfl))) k b neg dg ex s l m A e B d w hx q1 q2 q3 q4 q5 q6 hl
  ·exact shape_count _ (.inr (.inr (.inr (rfl)))) k b neg dg ex s l m A e B d w hx q1 q2 q3 q4 q5 q6 hl
  ·exact shape_bool _ (rfl) k b neg dg ex s l m A e B d w hx q1 q2 q3 q4 q5 q6 hl
  ·exact shape_texts _ (rfl) k b neg dg ex s l m A e B d w hx q1 q2 q3 q4 q5 q6 hl
  ·exact shape_schema _ (.inl rfl) k b neg dg ex s l m A e B d w hx q1 q2 q3 q4 q5 q6 hl
  ·exact shape_schema _ (.inr (.inl rfl)) k b neg dg ex s l m A e B d w hx q1 q2 q3 q4 q5 q6 hl
  ·exact shape_schema _ (.inr (.inr (rfl))) k b neg dg ex s l m A e B d w hx q1 q2 q3 q4 q5 q6 hl
  ·exact shape_members _ (.inl rfl) k b neg dg ex s l m A e B d w hx q1 q2 q3 q4 q5 q6 hl
  ·exact shape_members _ (.inr (rfl)) k b neg dg ex s l m A e B d w hx q1 q2 q3 q4 q5 q6 hl
  ·exact shape_list _ (.inl rfl) k b neg dg ex s l m A e B d w hx q1 q2 q3 q4 q5 q6 hl
  ·exact shape_list _ (.inr (.inl rfl)) k b neg dg ex s l m A e B d w hx q1 q2 q3 q4 q5 q6 hl
  ·exact shape_list _ (.inr (.inr (rfl))) k b neg dg ex s l m A e B d w hx q1 q2 q3 q4 q5 q6 hl
  ·exact shape_ref _ (rfl) k b neg dg ex s l m A e B d w hx q1 q2 q3 q4 q5 q6 hl

end Go.Proofs.YtolkfgikomminaaGreatDoor


