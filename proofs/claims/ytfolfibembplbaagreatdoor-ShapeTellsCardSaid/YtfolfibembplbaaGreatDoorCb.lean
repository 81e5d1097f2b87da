/- The walks of layer 10 (shape): the document's own functions beneath Shape. (By gen_cb.py.) -/
import Derived.Test.YtfolfibembplbaaGreatDoorCa
import Derived.Test.YtfolfibembplbaaGreatDoorJd
import Derived.Test.YtfolfibembplbaaGreatDoorJg
import Derived.Test.YtfolfibembplbaaGreatDoorMo
import Derived.BigQuiet
namespace Go.Proofs.YtfolfibembplbaaGreatDoor
open Go.RowKit Js

theorem refSingle_any (nm : List UInt8) (w : World) : Calls Tryz.prog 10 #[.string ⟨nm.toArray⟩] w fun e w' => e = .returned (.bool (Sh.single nm)) ∧ w' = w := by
  by_cases h1 : nm = [105, 116, 101, 109, 115]
  · subst h1
    go_enter Tryz.func10, Tryz.ntmps10
    go_wp2_with fail
    go_ret
    exact ⟨by kernel_rfl, rfl⟩
  by_cases h2 : nm = [97, 100, 100, 105, 116, 105, 111, 110, 97, 108, 80, 114, 111, 112, 101, 114, 116, 105, 101, 115]
  · subst h2
    go_enter Tryz.func10, Tryz.ntmps10
    go_wp2_with fail
    go_ret
    exact ⟨by kernel_rfl, rfl⟩
  by_cases h3 : nm = [110, 111, 116]
  · subst h3
    go_enter Tryz.func10, Tryz.ntmps10
    go_wp2_with fail
    go_ret
    exact ⟨by kernel_rfl, rfl⟩
  have HN := Lib.hid (show Sh.single nm = false from decide_eq_false (Sh.kw_only [[105, 116, 101, 109, 115], [97, 100, 100, 105, 116, 105, 111, 110, 97, 108, 80, 114, 111, 112, 101, 114, 116, 105, 101, 115], [110, 111, 116]] (by decide) (by simp [h1, h2, h3]) (by decide)))
  have e1 : (nm == [105, 116, 101, 109, 115]) = false := by simpa using h1
  have e2 : (nm == [97, 100, 100, 105, 116, 105, 111, 110, 97, 108, 80, 114, 111, 112, 101, 114, 116, 105, 101, 115]) = false := by simpa using h2
  have e3 : (nm == [110, 111, 116]) = false := by simpa using h3
  clear h1 h2 h3
  go_enter Tryz.func10, Tryz.ntmps10
  go_wp2_with fail
  go_ret
  exact ⟨by rw [HN.out]; rfl, rfl⟩

set_option linter.unusedVariables false in
set_option linter.unusedSimpArgs false in
set_option maxRecDepth 100000 in
set_option maxHeartbeats 2000000 in
theorem refSchema_any (v : Vl) (x : Value) (w : World) (hx : v.In w.cell? x) : Calls Tryz.prog 18 #[x] w fun e w' => e = .returned (.bool (Sh.isSch v)) ∧ Below w.heap.size w w' := by
  obtain ⟨k, b, n, s, l, m⟩ := v
  obtain ⟨A, e, B, d, rfl, -, -, -, -, -, -⟩ := In.form hx
  have HB := Lib.hid ((Below.refl w.heap.size w).alloc (Nat.le_refl _) (.cells #[.int .i64 k, .bool b, .bool n.neg, .string ⟨n.digits.toArray⟩, .int .i64 n.exp, .string ⟨s.toArray⟩, .slice A l.length e, .slice B m.length d] 28))
  clear hx
  by_cases h1 : k = 1
  · have t1 : (k == 1) = true := by simpa using h1
    have HS := Lib.hid (show Sh.isSch (.mk k b n s l m) = true by simp [Sh.isSch, Sh.kindOf, h1])
    clear h1
    go_enter Tryz.func18, Tryz.ntmps18
    go_wp2_with fail
    go_ret
    exact ⟨by rw [HS.out]; rfl, HB.out⟩
  · have t1 : (k == 1) = false := by simpa using h1
    have HS := Lib.hid (show Sh.isSch (.mk k b n s l m) = decide (k = 5) from (congrArg (· || decide (k = 5)) (decide_eq_false h1)).trans (Bool.false_or _))
    clear h1
    by_cases h5 : k = 5
    · have t5 : (k == 5) = true := by simpa using h5
      have HD := Lib.hid (show decide (k = 5) = true from decide_eq_true h5)
      clear h5
      go_enter Tryz.func18, Tryz.ntmps18
      go_wp2_with fail
      go_ret
      exact ⟨by rw [HS.out, HD.out]; rfl, HB.out⟩
    · have t5 : (k == 5) = false := by simpa using h5
      have HD := Lib.hid (show decide (k = 5) = false from decide_eq_false h5)
      clear h5
      go_enter Tryz.func18, Tryz.ntmps18
      go_wp2_with fail
      go_ret
      exact ⟨by rw [HS.out, HD.out]; rfl, HB.out⟩

set_option linter.unusedVariables false in
set_option linter.unusedSimpArgs false in
set_option maxRecDepth 100000 in
set_option maxHeartbeats 2000000 in
theorem refTyped_any (v : Vl) (x : Value) (w : World) (hx : v.In w.cell? x) : Calls Tryz.prog 16 #[x] w fun e w' => e = .returned (.bool (Sh.isName v)) ∧ Below w.heap.size w w' := by
  obtain ⟨k, b, n, s, l, m⟩ := v
  obtain ⟨A, e, B, d, rfl, -, -, -, -, -, -⟩ := In.form hx
  have HY := Lib.hid (fun j hj h3 he => Sh.isName_yes (k := k) (b := b) (n := n) (s := s) (l := l) (m := m) (j := j) hj h3 he)
  have HNO := Lib.hid (fun h => Sh.isName_no (k := k) (b := b) (n := n) (s := s) (l := l) (m := m) h)
  have HB0 := Lib.hid (show Boxed w k b n.neg n.digits n.exp s (.slice A l.length e) (.slice B m.length d) ((w.alloc (.cells #[.int .i64 k, .bool b, .bool n.neg, .string ⟨n.digits.toArray⟩, .int .i64 n.exp, .string ⟨s.toArray⟩, .slice A l.length e, .slice B m.length d] 28)).alloc (.cells #[.string ⟨#[110, 117, 108, 108]⟩, .string ⟨#[98, 111, 111, 108, 101, 97, 110]⟩, .string ⟨#[110, 117, 109, 98, 101, 114]⟩, .string ⟨#[105, 110, 116, 101, 103, 101, 114]⟩, .string ⟨#[115, 116, 114, 105, 110, 103]⟩, .string ⟨#[97, 114, 114, 97, 121]⟩, .string ⟨#[111, 98, 106, 101, 99, 116]⟩] 9)) from
    Boxed.start.next ((Below.refl _ _).alloc (Nat.le_refl _) _))
  have HN0 := Lib.hid (show ∀ p (hp : p < Sh.typeNames.length), ((w.alloc (.cells #[.int .i64 k, .bool b, .bool n.neg, .string ⟨n.digits.toArray⟩, .int .i64 n.exp, .string ⟨s.toArray⟩, .slice A l.length e, .slice B m.length d] 28)).alloc (.cells #[.string ⟨#[110, 117, 108, 108]⟩, .string ⟨#[98, 111, 111, 108, 101, 97, 110]⟩, .string ⟨#[110, 117, 109, 98, 101, 114]⟩, .string ⟨#[105, 110, 116, 101, 103, 101, 114]⟩, .string ⟨#[115, 116, 114, 105, 110, 103]⟩, .string ⟨#[97, 114, 114, 97, 121]⟩, .string ⟨#[111, 98, 106, 101, 99, 116]⟩] 9)).cell? ⟨w.heap.size + 1, p, none⟩ = some (.string ⟨(Sh.typeNames[p]'hp).toArray⟩) from fun p hp => by
    rw [(Blk.new2 w _ 9 #[.string ⟨#[110, 117, 108, 108]⟩, .string ⟨#[98, 111, 111, 108, 101, 97, 110]⟩, .string ⟨#[110, 117, 109, 98, 101, 114]⟩, .string ⟨#[105, 110, 116, 101, 103, 101, 114]⟩, .string ⟨#[115, 116, 114, 105, 110, 103]⟩, .string ⟨#[97, 114, 114, 97, 121]⟩, .string ⟨#[111, 98, 106, 101, 99, 116]⟩]).cell p]
    have h7 : p < 7 := hp
    rcases (show p = 0 ∨ p = 1 ∨ p = 2 ∨ p = 3 ∨ p = 4 ∨ p = 5 ∨ p = 6 by omega) with rfl | rfl | rfl | rfl | rfl | rfl | rfl <;> rfl)
  clear hx
  go_enter Tryz.func16, Tryz.ntmps16
  go_wp2_with fail
  go_loopw [4] (fun i wr => ∃ j : Nat, j ≤ 7 ∧ i = .int .i64 j ∧ Boxed w k b n.neg n.digits n.exp s (.slice A l.length e) (.slice B m.length d) wr ∧ (∀ p (hp : p < Sh.typeNames.length), wr.cell? ⟨w.heap.size + 1, p, none⟩ = some (.string ⟨(Sh.typeNames[p]'hp).toArray⟩)) ∧ ∀ p (hp : p < Sh.typeNames.length), p < j → ¬ (k = 3 ∧ s = Sh.typeNames[p]'hp)) (fun i _ => 7 - (intOf i).toNat)
  case atStart => exact ⟨0, by omega, rfl, HB0.out, HN0.out, fun p _ h => absurd h (Nat.not_lt_zero _)⟩
  case round =>
    obtain ⟨j, hj, rfl, hW, hN, hno⟩ := hrel
    have HW := Lib.hid hW
    have HN := Lib.hid hN
    have HX := Lib.hid hno
    obtain ⟨f0, f1, f2, f3, f4, f5, f6, f7⟩ := hW.cells
    clear hW hN hno HB0 HN0
    by_cases hlt : j < 7
    · have hc := HN.out j hlt
      have HYJ := Lib.hid (HY.out j hlt)
      have hgl := World.block_lt_of_cell? _ _ hc
      have HNX := Lib.hid (show ¬ (k = 3 ∧ s = Sh.typeNames[j]'hlt) → ∀ p (hp : p < Sh.typeNames.length), p < j + 1 → ¬ (k = 3 ∧ s = Sh.typeNames[p]'hp) from fun h p hp hpj => by
        by_cases e : p = j
        · subst e; exact h
        · exact HX.out p hp (by omega))
      have hj7 : (j : Int) < 7 := by omega
      generalize Sh.typeNames[j]'hlt = t at *
      by_cases hk : k = 3
      · have t3 : (k == 3) = true := by simpa using hk
        by_cases hs : s = t
        · have hsb : (s == t) = true := by simpa using hs
          have HF := Lib.hid (HYJ.out hk hs)
          clear hs hk
          go_upto_region 5 with (fail)
          go_quiet (fail)
          go_wp2_with fail
          go_ret
          exact ⟨by rw [HF.out]; rfl, below_drewN HW.out.below _⟩
        · have hsb : (s == t) = false := by simpa using hs
          have HF := Lib.hid (HNX.out (fun h => hs h.2))
          clear hs hk
          go_upto_region 5 with (fail)
          go_quiet (fail)
          go_wp2_with fail
          go_roundw
          case rel => exact ⟨j + 1, by omega, by go_num, HW.out.next (below_drewN (Below.refl _ _) _), HN.out, HF.out⟩
          case measure => simp [intOf]; omega
      · have t3 : (k == 3) = false := by simpa using hk
        have HF := Lib.hid (HNX.out (fun h => hk h.1))
        clear hk
        go_upto_region 5 with (fail)
        go_quiet (fail)
        go_wp2_with fail
        go_roundw
        case rel => exact ⟨j + 1, by omega, by go_num, HW.out.next (below_drewN (Below.refl _ _) _), HN.out, HF.out⟩
        case measure => simp [intOf]; omega
    · obtain rfl : j = 7 := by omega
      have HF := Lib.hid (HNO.out (fun p hp => HX.out p hp hp))
      go_wp2_with fail
      go_ret
      exact ⟨by rw [HF.out]; rfl, HW.out.below⟩

/-- An element of a list that lies in memory, in parts. -/
theorem el_parts {c : Cl} {A : Option Addr} {l : List Vl} (h : SlL c A l) {j : Nat} {u : Vl} (hj : l[j]? = some u) : ∃ (g o : Nat) (k : Int) (b : Bool) (n : Nm.Num) (s : List UInt8) (l1 : List Vl) (m1 : List Js.Mem) (A1 : Option Addr) (e1 : Nat) (B1 : Option Addr) (d1 : Nat),
    A = some ⟨g, o, none⟩ ∧ u = .mk k b n s l1 m1 ∧ CellsAt c g (o + j * 8) (.agg #[.int .i64 k, .bool b, .bool n.neg, .string ⟨n.digits.toArray⟩, .int .i64 n.exp, .string ⟨s.toArray⟩, .slice A1 l1.length e1, .slice B1 m1.length d1]) := by
  obtain ⟨g, o, y, hA, hy, hc⟩ := h j u hj
  obtain ⟨k, b, n, s, l1, m1⟩ := u
  obtain ⟨A1, e1, B1, d1, rfl, -, -, -, -, -, -⟩ := In.form hy
  exact ⟨g, o, k, b, n, s, l1, m1, A1, e1, B1, d1, hA, rfl, hc⟩

set_option linter.unusedVariables false in
set_option linter.unusedSimpArgs false in
set_option maxRecDepth 100000 in
set_option maxHeartbeats 2000000 in
theorem refTexts_any (v : Vl) (x : Value) (w : World) (hx : v.In w.cell? x) : Calls Tryz.prog 15 #[x] w fun e w' => e = .returned (.bool (Sh.texts v)) ∧ Below w.heap.size w w' := by
  obtain ⟨k, b, n, s, l, m⟩ := v
  obtain ⟨A, e, B, d, rfl, q1, q2, q3, q4, q5, q6⟩ := In.form hx
  unfold maxLen at q2 q4
  have H5 := Lib.hid (show SlL w.cell? A l from q5)
  have HT := Lib.hid (show Sh.texts (.mk k b n s l m) = (Sh.textsL l && decide (k = 4)) from rfl)
  clear hx q5 q6
  go_enter Tryz.func15, Tryz.ntmps15
  go_wp2_with fail
  go_loopw [3] (fun i wr => ∃ j : Nat, j ≤ l.length ∧ i = .int .i64 j ∧ Boxed w k b n.neg n.digits n.exp s (.slice A l.length e) (.slice B m.length d) wr ∧ Sh.textsL (l.take j) = true) (fun i _ => l.length - (intOf i).toNat)
  case atStart => exact ⟨0, by omega, rfl, Boxed.start, Sh.textsL_nil⟩
  case round =>
    obtain ⟨j, hj, rfl, hW, htx⟩ := hrel
    have HW := Lib.hid hW
    have HTX := Lib.hid htx
    obtain ⟨f0, f1, f2, f3, f4, f5, f6, f7⟩ := hW.cells
    clear hW htx
    by_cases hlt : j < l.length
    · obtain ⟨g, o, kj, bj, nj, sj, lj, mj, Aj, ej, Bj, dj, hA, hu, hc⟩ := el_parts H5.out (List.getElem?_eq_getElem hlt)
      subst hA
      have HC := Lib.hid hc
      have HU := Lib.hid hu
      have hjj : (j : Int) < (l.length : Int) := by omega
      clear hc hu
      obtain ⟨wo, hwo⟩ : ∃ W, W = wr := ⟨_, rfl⟩
      subst hwo
      go_wp2_with fail
      go_loopw [4] (fun i wr => ∃ q : Nat, q ≤ j ∧ i = .int .i64 q ∧ Boxed w k b n.neg n.digits n.exp s (.slice (some ⟨g, o, none⟩) l.length e) (.slice B m.length d) wr ∧ ∀ p u, p < q → l[p]? = some u → ¬ Sh.strOf u = sj) (fun i _ => j - (intOf i).toNat)
      case atStart => exact ⟨0, by omega, rfl, HW.out, fun p u h => absurd h (Nat.not_lt_zero _)⟩
      case round =>
        clear f0 f1 f2 f3 f4 f5 f6 f7
        obtain ⟨q, hq, rfl, hW2, hno⟩ := hrel
        have HW2 := Lib.hid hW2
        have HNO := Lib.hid hno
        obtain ⟨f0, f1, f2, f3, f4, f5, f6, f7⟩ := hW2.cells
        have hcj := (HC.out.keep hW2.le).eight
        obtain ⟨e0, e1, e2, e3, e4, e5, e6, e7⟩ := hcj
        have hgl := World.block_lt_of_cell? _ _ e0
        clear hW2 hno
        by_cases hqj : q < j
        · obtain ⟨g2, o2, kq, bq, nq', sq, lq, mq, Aq, eq, Bq, dq, hA, hu, hc⟩ := el_parts H5.out (List.getElem?_eq_getElem (show q < l.length by omega))
          injection hA with hA
          injection hA with hg ho _
          subst hg ho
          have HQ := Lib.hid hu
          obtain ⟨d0, d1, d2, d3, d4, d5, d6, d7⟩ := (hc.keep HW2.out.le).eight
          have hqi : (q : Int) < (j : Int) := by omega
          have hql : (q : Int) < (l.length : Int) := by omega
          clear hc hu
          by_cases hs : sj = sq
          · have hsb : (sj == sq) = true := by simpa using hs
            have HF := Lib.hid (show Sh.textsL l = false from Sh.textsL_dup hqj hlt (by rw [HQ.out, HU.out]; exact hs.symm))
            clear hs
            go_upto_region 7 with (fail)
            go_quiet (fail)
            go_wp2_with fail
            go_ret
            exact ⟨by rw [HT.out, HF.out]; rfl, below_drewN HW2.out.below _⟩
          · have hsb : (sj == sq) = false := by simpa using hs
            have HF := Lib.hid (show ∀ p u, p < q + 1 → l[p]? = some u → ¬ Sh.strOf u = sj from fun p u hp hpu => by
              by_cases e : p = q
              · subst e
                rw [List.getElem?_eq_getElem (show p < l.length by omega), HQ.out] at hpu
                injection hpu with hpu
                rw [← hpu]
                exact fun h => hs h.symm
              · exact HNO.out p u (by omega) hpu)
            clear hs
            go_upto_region 7 with (fail)
            go_quiet (fail)
            go_wp2_with fail
            go_roundw
            case rel => exact ⟨q + 1, by omega, by go_num, HW2.out.next (below_drewN (Below.refl _ _) _), HF.out⟩
            case measure => simp [intOf]; omega
        · obtain rfl : q = j := by omega
          by_cases h3 : kj = 3
          · have t3 : (kj == 3) = true := by simpa using h3
            have t3' : (kj != 3) = false := by simpa using h3
            have HF := Lib.hid (show Sh.textsL (l.take (q + 1)) = true from Sh.textsL_next hlt HTX.out (by rw [HU.out]; exact h3) (fun p hp h => HNO.out p _ hp (List.getElem?_eq_getElem _) (by rw [h, HU.out]; rfl)))
            clear h3
            go_wp2_with fail
            go_roundw
            case rel => exact ⟨q + 1, by omega, by go_num, HW2.out, HF.out⟩
            case measure => simp [intOf]; omega
          · have t3 : (kj == 3) = false := by simpa using h3
            have t3' : (kj != 3) = true := by simpa using h3
            have HF := Lib.hid (show Sh.textsL l = false from Sh.textsL_kind hlt (by rw [HU.out]; exact h3))
            clear h3
            go_wp2_with fail
            go_ret
            exact ⟨by rw [HT.out, HF.out]; rfl, HW2.out.below⟩
    · obtain rfl : j = l.length := by omega
      have hl : Sh.textsL l = true := by have := HTX.out; rwa [List.take_length] at this
      have HF := Lib.hid (show Sh.texts (.mk k b n s l m) = decide (k = 4) by rw [HT.out, hl]; rfl)
      clear hl
      by_cases h4 : k = 4
      · have t4 : (k == 4) = true := by simpa using h4
        have HD := Lib.hid (show decide (k = 4) = true from decide_eq_true h4)
        clear h4
        go_wp2_with fail
        go_ret
        exact ⟨by rw [HF.out, HD.out]; rfl, HW.out.below⟩
      · have t4 : (k == 4) = false := by simpa using h4
        have HD := Lib.hid (show decide (k = 4) = false from decide_eq_false h4)
        clear h4
        go_wp2_with fail
        go_ret
        exact ⟨by rw [HF.out, HD.out]; rfl, HW.out.below⟩

set_option linter.unusedVariables false in
set_option linter.unusedSimpArgs false in
set_option maxRecDepth 100000 in
set_option maxHeartbeats 2000000 in
theorem refAll_any (m : List Js.Mem) (A : Option Addr) (cp : Nat) (w : World) (hs : SlM w.cell? A m) (hl : m.length ≤ cp) (hm : cp ≤ maxLen) : Calls Tryz.prog 19 #[.slice A m.length cp] w fun e w' => e = .returned (.bool (Sh.allM m)) ∧ Below w.heap.size w w' := by
  have HS := Lib.hid hs
  unfold maxLen at hm
  clear hs
  go_enter Tryz.func19, Tryz.ntmps19
  go_wp2_with fail
  go_loopw [3] (fun i wr => ∃ j : Nat, j ≤ m.length ∧ i = .int .i64 j ∧ Below w.heap.size w wr ∧ Sh.allM (m.take j) = true) (fun i _ => m.length - (intOf i).toNat)
  case atStart => exact ⟨0, by omega, rfl, Below.refl _ _, rfl⟩
  case round =>
    obtain ⟨j, hj, rfl, hb, hal⟩ := hrel
    have HB := Lib.hid hb
    have HAL := Lib.hid hal
    clear hb hal
    by_cases hlt : j < m.length
    · obtain ⟨g, o, y, rfl, hy, hk, hc⟩ := HS.out j _ (List.getElem?_eq_getElem hlt)
      obtain ⟨k1, b1, n1, g1, x1, s1, A1, l1, p1, B1, m1, d1, rfl⟩ := In.cells hy
      have HSC := Lib.hid (refSchema_any (m[j]).2 _ wr (In.keep (le_below HB.out) _ _ hy))
      obtain ⟨e0, e1, e2, e3, e4, e5, e6, e7⟩ := (hc.keep (le_below HB.out)).eight
      have HN := Lib.hid (fun h => Sh.allM_next hlt HAL.out h)
      have HX := Lib.hid (fun h => Sh.allM_not (m := m) hlt h)
      have hjj : (j : Int) < (m.length : Int) := by omega
      have hgl := World.block_lt_of_cell? _ _ e0
      clear hy hk hc
      obtain ⟨sb, hsb⟩ : ∃ sb, Sh.isSch (m[j]).2 = sb := ⟨_, rfl⟩
      rw [hsb] at HSC HN HX
      clear hsb
      go_wp2_with fail
      refine HSC.out.mono ?_
      rintro e2 w2 ⟨rfl, hb2⟩
      have HB2 := Lib.hid (HB.out.trans (hb2.mono HB.out.size))
      clear hb2 HSC
      cases sb with
      | true =>
        go_wp2_with fail
        go_roundw
        case rel => exact ⟨j + 1, by omega, by go_num, HB2.out, HN.out (by simp)⟩
        case measure => simp [intOf]; omega
      | false =>
        go_wp2_with fail
        go_ret
        exact ⟨by rw [HX.out (by simp)]; rfl, HB2.out⟩
    · obtain rfl : j = m.length := by omega
      have HF := Lib.hid (show Sh.allM m = true by have := HAL.out; rwa [List.take_length] at this)
      go_wp2_with fail
      go_ret
      exact ⟨by rw [HF.out]; rfl, HB.out⟩

theorem refDigits_any (n : Nat) (w : World) (h : n ≤ 1000000) : Calls Tryz.prog 28 #[.int .i64 n] w fun e w' => e = .returned (.string ⟨(Lib.decDigits n).toArray⟩) ∧ Below w.heap.size w w' := by
  have HI := Lib.hid (showPlain_any n w h)
  clear h
  go_enter Tryz.func28, Tryz.ntmps28
  go_wp2_with fail
  refine HI.out.mono ?_
  rintro e w1 ⟨rfl, hb⟩
  go_wp2_with fail
  go_ret
  exact ⟨rfl, hb⟩

end Go.Proofs.YtfolfibembplbaaGreatDoor

