/- Ch: Ch Ci, in one text. -/
import Derived.Test.YtlhinefalkfjaaaGreatDoorCf
import Derived.Test.YtlhinefalkfjaaaGreatDoorAb
import Derived.Test.YtlhinefalkfjaaaGreatDoorNc
namespace Go.Proofs.YtlhinefalkfjaaaGreatDoor
open Go.RowKit Js

theorem isSchema_any (v : Vl) (x : Value) (w : World) (hx : v.In w.cell? x) : Calls Tryz.prog 62 #[x] w fun e w' => e = .returned (.bool (Sh.isSch v)) ∧ Below w.heap.size w w' := by
  obtain ⟨k, b, n, s, l, m⟩ := v
  obtain ⟨A, e, B, d, rfl, -, -, -, -, -, -⟩ := In.form hx
  have HB := Lib.hid ((Below.refl w.heap.size w).alloc (Nat.le_refl _) (.cells #[.int .i64 k, .bool b, .bool n.neg, .string ⟨n.digits.toArray⟩, .int .i64 n.exp, .string ⟨s.toArray⟩, .slice A l.length e, .slice B m.length d] 28))
  clear hx
  by_cases h1 : k = 1
  · have t1 : (k == 1) = true := by simpa using h1
    have HS := Lib.hid (show Sh.isSch (.mk k b n s l m) = true by simp [Sh.isSch, Sh.kindOf, h1])
    clear h1
    go_enter Tryz.func62, Tryz.ntmps62
    go_wp2_with fail
    go_ret
    exact ⟨by rw [HS.out]; rfl, HB.out⟩
  · have t1 : (k == 1) = false := by simpa using h1
    have HS := Lib.hid (show Sh.isSch (.mk k b n s l m) = decide (k = 5) from (congrArg (· || decide (k = 5)) (decide_eq_false h1)).trans (Bool.false_or _))
    clear h1
    by_cases h5 : k = 5
    · have t5 : (k == 5) = true := by simpa using h5
      have HD := Lib.hid (show decide (k = 5) = true from decide_eq_true h5)
      clear h5
      go_enter Tryz.func62, Tryz.ntmps62
      go_wp2_with fail
      go_ret
      exact ⟨by rw [HS.out, HD.out]; rfl, HB.out⟩
    · have t5 : (k == 5) = false := by simpa using h5
      have HD := Lib.hid (show decide (k = 5) = false from decide_eq_false h5)
      clear h5
      go_enter Tryz.func62, Tryz.ntmps62
      go_wp2_with fail
      go_ret
      exact ⟨by rw [HS.out, HD.out]; rfl, HB.out⟩

set_option linter.unusedVariables false in
set_option linter.unusedSimpArgs false in
set_option maxRecDepth 100000 in
set_option maxHeartbeats 2000000 in
theorem isType_any (v : Vl) (x : Value) (w : World) (hx : v.In w.cell? x) : Calls Tryz.prog 73 #[x] w fun e w' => e = .returned (.bool (Sh.isName v)) ∧ Below w.heap.size w w' := by
  obtain ⟨k, b, n, s, l, m⟩ := v
  obtain ⟨A, e, B, d, rfl, -, -, -, -, -, -⟩ := In.form hx
  have HB := Lib.hid ((Below.refl w.heap.size w).alloc (Nat.le_refl _) (.cells #[.int .i64 k, .bool b, .bool n.neg, .string ⟨n.digits.toArray⟩, .int .i64 n.exp, .string ⟨s.toArray⟩, .slice A l.length e, .slice B m.length d] 28))
  have HY := Lib.hid (fun j hj h3 he => Sh.isName_yes (k := k) (b := b) (n := n) (s := s) (l := l) (m := m) (j := j) hj h3 he)
  have HNO := Lib.hid (fun h => Sh.isName_no (k := k) (b := b) (n := n) (s := s) (l := l) (m := m) h)
  clear hx
  by_cases h3 : k = 3
  · have t3 : (k == 3) = true := by simpa using h3
    have t3' : (k != 3) = false := by simpa using h3
    by_cases s0 : s = [110, 117, 108, 108]
    · have HF := Lib.hid (HY.out 0 (by decide) h3 (by rw [s0]; rfl))
      subst s0
      clear h3 HY HNO
      go_enter Tryz.func73, Tryz.ntmps73
      go_wp2_with fail
      go_ret
      exact ⟨by rw [HF.out]; rfl, HB.out⟩
    by_cases s1 : s = [98, 111, 111, 108, 101, 97, 110]
    · have HF := Lib.hid (HY.out 1 (by decide) h3 (by rw [s1]; rfl))
      subst s1
      clear h3 HY HNO
      go_enter Tryz.func73, Tryz.ntmps73
      go_wp2_with fail
      go_ret
      exact ⟨by rw [HF.out]; rfl, HB.out⟩
    by_cases s2 : s = [110, 117, 109, 98, 101, 114]
    · have HF := Lib.hid (HY.out 2 (by decide) h3 (by rw [s2]; rfl))
      subst s2
      clear h3 HY HNO
      go_enter Tryz.func73, Tryz.ntmps73
      go_wp2_with fail
      go_ret
      exact ⟨by rw [HF.out]; rfl, HB.out⟩
    by_cases s3 : s = [105, 110, 116, 101, 103, 101, 114]
    · have HF := Lib.hid (HY.out 3 (by decide) h3 (by rw [s3]; rfl))
      subst s3
      clear h3 HY HNO
      go_enter Tryz.func73, Tryz.ntmps73
      go_wp2_with fail
      go_ret
      exact ⟨by rw [HF.out]; rfl, HB.out⟩
    by_cases s4 : s = [115, 116, 114, 105, 110, 103]
    · have HF := Lib.hid (HY.out 4 (by decide) h3 (by rw [s4]; rfl))
      subst s4
      clear h3 HY HNO
      go_enter Tryz.func73, Tryz.ntmps73
      go_wp2_with fail
      go_ret
      exact ⟨by rw [HF.out]; rfl, HB.out⟩
    by_cases s5 : s = [97, 114, 114, 97, 121]
    · have HF := Lib.hid (HY.out 5 (by decide) h3 (by rw [s5]; rfl))
      subst s5
      clear h3 HY HNO
      go_enter Tryz.func73, Tryz.ntmps73
      go_wp2_with fail
      go_ret
      exact ⟨by rw [HF.out]; rfl, HB.out⟩
    by_cases s6 : s = [111, 98, 106, 101, 99, 116]
    · have HF := Lib.hid (HY.out 6 (by decide) h3 (by rw [s6]; rfl))
      subst s6
      clear h3 HY HNO
      go_enter Tryz.func73, Tryz.ntmps73
      go_wp2_with fail
      go_ret
      exact ⟨by rw [HF.out]; rfl, HB.out⟩
    have HF := Lib.hid (HNO.out (fun j hj h => by
      have h7 : j < 7 := hj
      rcases (show j = 0 ∨ j = 1 ∨ j = 2 ∨ j = 3 ∨ j = 4 ∨ j = 5 ∨ j = 6 by omega) with rfl | rfl | rfl | rfl | rfl | rfl | rfl
      · exact s0 h.2
      · exact s1 h.2
      · exact s2 h.2
      · exact s3 h.2
      · exact s4 h.2
      · exact s5 h.2
      · exact s6 h.2))
    have e0 : (s == [110, 117, 108, 108]) = false := by simpa using s0
    have e1 : (s == [98, 111, 111, 108, 101, 97, 110]) = false := by simpa using s1
    have e2 : (s == [110, 117, 109, 98, 101, 114]) = false := by simpa using s2
    have e3 : (s == [105, 110, 116, 101, 103, 101, 114]) = false := by simpa using s3
    have e4 : (s == [115, 116, 114, 105, 110, 103]) = false := by simpa using s4
    have e5 : (s == [97, 114, 114, 97, 121]) = false := by simpa using s5
    have e6 : (s == [111, 98, 106, 101, 99, 116]) = false := by simpa using s6
    clear h3 HY HNO s0 s1 s2 s3 s4 s5 s6
    go_enter Tryz.func73, Tryz.ntmps73
    go_wp2_with fail
    go_ret
    exact ⟨by rw [HF.out]; rfl, HB.out⟩
  · have t3 : (k == 3) = false := by simpa using h3
    have t3' : (k != 3) = true := by simpa using h3
    have HF := Lib.hid (HNO.out (fun j hj h => h3 h.1))
    clear h3 HY HNO
    go_enter Tryz.func73, Tryz.ntmps73
    go_wp2_with fail
    go_ret
    exact ⟨by rw [HF.out]; rfl, HB.out⟩

theorem single_any (nm : List UInt8) (w : World) : Calls Tryz.prog 46 #[.string ⟨nm.toArray⟩] w fun e w' => e = .returned (.bool (Sh.single nm)) ∧ w' = w := by
  by_cases h1 : nm = [105, 116, 101, 109, 115]
  · subst h1
    go_enter Tryz.func46, Tryz.ntmps46
    go_wp2_with fail
    go_ret
    exact ⟨by kernel_rfl, rfl⟩
  by_cases h2 : nm = [97, 100, 100, 105, 116, 105, 111, 110, 97, 108, 80, 114, 111, 112, 101, 114, 116, 105, 101, 115]
  · subst h2
    go_enter Tryz.func46, Tryz.ntmps46
    go_wp2_with fail
    go_ret
    exact ⟨by kernel_rfl, rfl⟩
  by_cases h3 : nm = [110, 111, 116]
  · subst h3
    go_enter Tryz.func46, Tryz.ntmps46
    go_wp2_with fail
    go_ret
    exact ⟨by kernel_rfl, rfl⟩
  have HN := Lib.hid (show Sh.single nm = false from decide_eq_false (Sh.kw_only [[105, 116, 101, 109, 115], [97, 100, 100, 105, 116, 105, 111, 110, 97, 108, 80, 114, 111, 112, 101, 114, 116, 105, 101, 115], [110, 111, 116]] (by decide) (by simp [h1, h2, h3]) (by decide)))
  have e1 : (nm == [105, 116, 101, 109, 115]) = false := by simpa using h1
  have e2 : (nm == [97, 100, 100, 105, 116, 105, 111, 110, 97, 108, 80, 114, 111, 112, 101, 114, 116, 105, 101, 115]) = false := by simpa using h2
  have e3 : (nm == [110, 111, 116]) = false := by simpa using h3
  clear h1 h2 h3
  go_enter Tryz.func46, Tryz.ntmps46
  go_wp2_with fail
  go_ret
  exact ⟨by rw [HN.out]; rfl, rfl⟩

set_option linter.unusedVariables false in
set_option linter.unusedSimpArgs false in
set_option maxRecDepth 100000 in
set_option maxHeartbeats 2000000 in
theorem all10_any (p : Vl → Bool) (f : Nat) (eg : ∀ args w, (callFunc f args).run Tryz.prog w = .ok (.enter f args) w) (hP : ∀ (v : Vl) (x : Value) (W : World), v.In W.cell? x → Calls Tryz.prog f #[x] W fun e W' => e = .returned (.bool (p v)) ∧ Below W.heap.size W W')
    (l : List Vl) (A : Option Addr) (c : Nat) (w : World) (hs : SlL w.cell? A l) (hl : l.length ≤ c) (hm : c ≤ maxLen) :
    Calls Tryz.prog 64 #[.slice A l.length c, .func (.func f) #[] #[]] w fun e w' => e = .returned (.bool (l.all p)) ∧ Below w.heap.size w w' := by
  have HS := Lib.hid hs
  have HP := Lib.hid hP
  unfold maxLen at hm
  clear hs hP
  go_enter Tryz.func64, Tryz.ntmps64
  go_wp2_with fail
  go_loopw [9] (fun i wr => ∃ j : Nat, j ≤ l.length ∧ i = .int .i64 j ∧ Below w.heap.size w wr ∧ (l.take j).all p = true) (fun i _ => l.length - (intOf i).toNat)
  case atStart => exact ⟨0, by omega, rfl, Below.refl _ _, rfl⟩
  case round =>
    obtain ⟨j, hj, rfl, hb, hal⟩ := hrel
    have HB := Lib.hid hb
    have HAL := Lib.hid hal
    clear hb hal
    by_cases hlt : j < l.length
    · obtain ⟨g, o, y, rfl, hy, hc⟩ := HS.out j _ (List.getElem?_eq_getElem hlt)
      obtain ⟨y_1, y_2, y_3, y_4, y_5, y_6, y_7, y_8, y_9, y_a, y_b, y_c, rfl⟩ := In.cells hy
      have hb1 := (Below.refl wr.heap.size wr).alloc (Nat.le_refl _) (.cells #[.int .i64 y_1, .bool y_2, .bool y_3, .string ⟨y_4.toArray⟩, .int .i64 y_5, .string ⟨y_6.toArray⟩, .slice y_7 y_8 y_9, .slice y_a y_b y_c] 28)
      have HB1 := Lib.hid (HB.out.trans (hb1.mono HB.out.size))
      have HPJ := Lib.hid (HP.out (l[j]) _ (wr.alloc (.cells #[.int .i64 y_1, .bool y_2, .bool y_3, .string ⟨y_4.toArray⟩, .int .i64 y_5, .string ⟨y_6.toArray⟩, .slice y_7 y_8 y_9, .slice y_a y_b y_c] 28)) (In.keep (le_below HB1.out) _ _ hy))
      have HK1 := Lib.hid (Blk.new wr 28 #[.int .i64 y_1, .bool y_2, .bool y_3, .string ⟨y_4.toArray⟩, .int .i64 y_5, .string ⟨y_6.toArray⟩, .slice y_7 y_8 y_9, .slice y_a y_b y_c])
      obtain ⟨e0, e1, e2, e3, e4, e5, e6, e7⟩ := (hc.keep (le_below HB.out)).eight
      have hjj : (j : Int) < (l.length : Int) := by omega
      have hgl := World.block_lt_of_cell? _ _ e0
      have HN := Lib.hid (show ∀ sb, p l[j] = sb → (l.take (j + 1)).all p = sb from fun sb h => by rw [List.take_succ_eq_append_getElem hlt, List.all_append, HAL.out, ← h]; simp)
      have HX := Lib.hid (show p l[j] = false → l.all p = false from fun h => by
        rw [Bool.eq_false_iff]
        intro hh
        rw [List.all_eq_true] at hh
        have := hh _ (List.getElem_mem hlt)
        rw [h] at this; cases this)
      obtain ⟨sb, hsb⟩ : ∃ sb, p l[j] = sb := ⟨_, rfl⟩
      have HN := Lib.hid (HN.out sb hsb)
      rw [hsb] at HPJ HX
      clear hy hc hb1 hsb
      cases sb with
      | true =>
        go_upto_region 4 with (fail)
        generalize wr.alloc (.cells #[.int .i64 y_1, .bool y_2, .bool y_3, .string ⟨y_4.toArray⟩, .int .i64 y_5, .string ⟨y_6.toArray⟩, .slice y_7 y_8 y_9, .slice y_a y_b y_c] 28) = w1 at *
        clear e0 e1 e2 e3 e4 e5 e6 e7 hgl
        obtain ⟨a0, a1, a2, a3, a4, a5, a6, a7⟩ := HK1.out.eight
        have hkl := HK1.out.lt
        go_wp2_with (go_at_fn f; refine HPJ.out.mono ?_; rintro e2 w2 ⟨rfl, hb2⟩; have HB2 := Lib.hid (HB1.out.trans (hb2.mono HB1.out.size)); clear hb2)
        go_roundw
        case rel => exact ⟨j + 1, by omega, by go_num, HB2.out, HN.out⟩
        case measure => simp [intOf]; omega
      | false =>
        go_upto_region 4 with (fail)
        generalize wr.alloc (.cells #[.int .i64 y_1, .bool y_2, .bool y_3, .string ⟨y_4.toArray⟩, .int .i64 y_5, .string ⟨y_6.toArray⟩, .slice y_7 y_8 y_9, .slice y_a y_b y_c] 28) = w1 at *
        clear e0 e1 e2 e3 e4 e5 e6 e7 hgl
        obtain ⟨a0, a1, a2, a3, a4, a5, a6, a7⟩ := HK1.out.eight
        have hkl := HK1.out.lt
        go_wp2_with (go_at_fn f; refine HPJ.out.mono ?_; rintro e2 w2 ⟨rfl, hb2⟩; have HB2 := Lib.hid (HB1.out.trans (hb2.mono HB1.out.size)); clear hb2)
        go_ret
        exact ⟨by rw [HX.out (by simp)]; rfl, HB2.out⟩
    · obtain rfl : j = l.length := by omega
      have HF := Lib.hid (show l.all p = true by have := HAL.out; rwa [List.take_length] at this)
      go_wp2_with fail
      go_ret
      exact ⟨by rw [HF.out]; rfl, HB.out⟩
theorem allSchema_any (l : List Vl) (A : Option Addr) (c : Nat) (w : World) (hs : SlL w.cell? A l) (hl : l.length ≤ c) (hm : c ≤ maxLen) :
    Calls Tryz.prog 64 #[.slice A l.length c, .func (.func 62) #[] #[]] w fun e w' => e = .returned (.bool (Sh.allL l)) ∧ Below w.heap.size w w' :=
  all10_any Sh.isSch 62 (enters_of Tryz.func62 (by kernel_rfl) rfl) isSchema_any l A c w hs hl hm
theorem allType_any (l : List Vl) (A : Option Addr) (c : Nat) (w : World) (hs : SlL w.cell? A l) (hl : l.length ≤ c) (hm : c ≤ maxLen) :
    Calls Tryz.prog 64 #[.slice A l.length c, .func (.func 73) #[] #[]] w fun e w' => e = .returned (.bool (Sh.namesL l)) ∧ Below w.heap.size w w' :=
  all10_any Sh.isName 73 (enters_of Tryz.func73 (by kernel_rfl) rfl) isType_any l A c w hs hl hm

set_option linter.unusedVariables false in
set_option linter.unusedSimpArgs false in
set_option maxRecDepth 100000 in
set_option maxHeartbeats 2000000 in
theorem haveSchemas_any (m : List Js.Mem) (A : Option Addr) (cp : Nat) (w : World) (hs : SlM w.cell? A m) (hl : m.length ≤ cp) (hm : cp ≤ maxLen) : Calls Tryz.prog 63 #[.slice A m.length cp] w fun e w' => e = .returned (.bool (Sh.allM m)) ∧ Below w.heap.size w w' := by
  have HS := Lib.hid hs
  unfold maxLen at hm
  clear hs
  go_enter Tryz.func63, Tryz.ntmps63
  go_wp2_with fail
  go_loopw [7] (fun i wr => ∃ j : Nat, j ≤ m.length ∧ i = .int .i64 j ∧ Below w.heap.size w wr ∧ Sh.allM (m.take j) = true) (fun i _ => m.length - (intOf i).toNat)
  case atStart => exact ⟨0, by omega, rfl, Below.refl _ _, rfl⟩
  case round =>
    obtain ⟨j, hj, rfl, hb, hal⟩ := hrel
    have HB := Lib.hid hb
    have HAL := Lib.hid hal
    clear hb hal
    by_cases hlt : j < m.length
    · obtain ⟨g, o, y, rfl, hy, hk, hc⟩ := HS.out j _ (List.getElem?_eq_getElem hlt)
      obtain ⟨y_1, y_2, y_3, y_4, y_5, y_6, y_7, y_8, y_9, y_a, y_b, y_c, rfl⟩ := In.cells hy
      have hb1 := (Below.refl wr.heap.size wr).alloc (Nat.le_refl _) (.cells #[.string ⟨(m[j]).1.toArray⟩, .int .i64 y_1, .bool y_2, .bool y_3, .string ⟨y_4.toArray⟩, .int .i64 y_5, .string ⟨y_6.toArray⟩, .slice y_7 y_8 y_9, .slice y_a y_b y_c] 88)
      have HB1 := Lib.hid (HB.out.trans (hb1.mono HB.out.size))
      have HSC := Lib.hid (isSchema_any (m[j]).2 _ (wr.alloc (.cells #[.string ⟨(m[j]).1.toArray⟩, .int .i64 y_1, .bool y_2, .bool y_3, .string ⟨y_4.toArray⟩, .int .i64 y_5, .string ⟨y_6.toArray⟩, .slice y_7 y_8 y_9, .slice y_a y_b y_c] 88)) (In.keep (le_below HB1.out) _ _ hy))
      have HK1 := Lib.hid (Blk.new wr 88 #[.string ⟨(m[j]).1.toArray⟩, .int .i64 y_1, .bool y_2, .bool y_3, .string ⟨y_4.toArray⟩, .int .i64 y_5, .string ⟨y_6.toArray⟩, .slice y_7 y_8 y_9, .slice y_a y_b y_c])
      have ek := (le_below HB.out) _ _ hk
      obtain ⟨e0, e1, e2, e3, e4, e5, e6, e7⟩ := (hc.keep (le_below HB.out)).eight
      have HN := Lib.hid (fun h => Sh.allM_next hlt HAL.out h)
      have HX := Lib.hid (fun h => Sh.allM_not (m := m) hlt h)
      have hjj : (j : Int) < (m.length : Int) := by omega
      have hgl := World.block_lt_of_cell? _ _ ek
      obtain ⟨sb, hsb⟩ : ∃ sb, Sh.isSch (m[j]).2 = sb := ⟨_, rfl⟩
      rw [hsb] at HSC HN HX
      generalize (m[j]).1 = key at *
      clear hy hk hc hb1 hsb
      go_upto_region 4 with (fail)
      generalize wr.alloc (.cells #[.string ⟨key.toArray⟩, .int .i64 y_1, .bool y_2, .bool y_3, .string ⟨y_4.toArray⟩, .int .i64 y_5, .string ⟨y_6.toArray⟩, .slice y_7 y_8 y_9, .slice y_a y_b y_c] 88) = w1 at *
      clear ek e0 e1 e2 e3 e4 e5 e6 e7 hgl
      obtain ⟨a0, a1, a2, a3, a4, a5, a6, a7, a8⟩ := HK1.out.nineM
      have hkl := HK1.out.lt
      go_wp2_with fail
      refine HSC.out.mono ?_
      rintro e2 w2 ⟨rfl, hb2⟩
      have HB2 := Lib.hid (HB1.out.trans (hb2.mono HB1.out.size))
      clear hb2 HSC
      cases sb with
      | true =>
        go_wp2_with fail
        go_roundw
        case rel => exact ⟨j + 1, by omega, by go_num, HB2.out, HN.out (by simp)⟩
        case measure => simp [intOf]; omega
      | false =>
        go_wp2_with fail
        go_ret
        exact ⟨by rw [HX.out (by simp)]; rfl, HB2.out⟩
    · obtain rfl : j = m.length := by omega
      have HF := Lib.hid (show Sh.allM m = true by have := HAL.out; rwa [List.take_length] at this)
      go_wp2_with fail
      go_ret
      exact ⟨by rw [HF.out]; rfl, HB.out⟩

theorem Sh.seen_next {l : List Vl} {j : Nat} (hlt : j < l.length) {S : List UInt8 → Bool} (h : ∀ k, S k = (l.take j).any (fun v => decide (Sh.strOf v = k))) : ∀ k, (decide (Sh.strOf l[j] = k) || S k) = (l.take (j + 1)).any (fun v => decide (Sh.strOf v = k)) := fun k => by
  rw [List.take_succ_eq_append_getElem hlt, List.any_append, h k]
  simp [Bool.or_comm]
theorem Sh.seen_no {l : List Vl} {j : Nat} (hlt : j < l.length) {S : List UInt8 → Bool} (h : ∀ k, S k = (l.take j).any (fun v => decide (Sh.strOf v = k))) (hn : S (Sh.strOf l[j]) = false) : ∀ p (hp : p < j), ¬ Sh.strOf (l[p]'(by omega)) = Sh.strOf l[j] := fun p hp e => by
  rw [h, Bool.eq_false_iff] at hn
  refine hn (List.any_eq_true.2 ⟨l[p]'(by omega), ?_, by simpa using e⟩)
  rw [List.mem_take_iff_getElem]
  exact ⟨p, by omega, rfl⟩
theorem Sh.seen_yes {l : List Vl} {j : Nat} (hlt : j < l.length) {S : List UInt8 → Bool} (h : ∀ k, S k = (l.take j).any (fun v => decide (Sh.strOf v = k))) (hn : S (Sh.strOf l[j]) = true) : Sh.textsL l = false := by
  rw [h, List.any_eq_true] at hn
  obtain ⟨v, hv, he⟩ := hn
  obtain ⟨p, hp, rfl⟩ := List.mem_take_iff_getElem.1 hv
  exact Sh.textsL_dup (p := p) (by omega) hlt (by simpa using he)

set_option linter.unusedVariables false in
set_option linter.unusedSimpArgs false in
set_option maxRecDepth 100000 in
set_option maxHeartbeats 2000000 in
theorem unlike_any (l : List Vl) (A : Option Addr) (c : Nat) (w : World) (hs : SlL w.cell? A l) (hl : l.length ≤ c) (hm : c ≤ maxLen) (hn : l.length ≤ 1000000) (hk : ∀ v ∈ l, (Sh.strOf v).length ≤ 1000000) :
    Calls Tryz.prog 61 #[.slice A l.length c] w fun e w' => e = .returned (.bool (Sh.textsL l)) ∧ Below w.heap.size w w' := by
  have HS := Lib.hid hs
  have HK := Lib.hid hk
  have HM0 := Lib.hid (SeenAt.new w)
  have HB0 := Lib.hid ((Below.refl w.heap.size w).alloc (Nat.le_refl _) (.map #[] 0))
  unfold maxLen at hm
  clear hs hk
  have hmk : ∀ W : World, (Instr.makeMap 131 none).run Tryz.prog W = .ok (.map (some W.heap.size)) (W.alloc (.map #[] 0)) := fun W => run_makeMap _ W
  go_enter Tryz.func61, Tryz.ntmps61
  go_upto_region 2 with (fail)
  generalize w.alloc (.map #[] 0) = w0 at *
  obtain ⟨mb, hmb⟩ : ∃ mb, w.heap.size = mb := ⟨_, rfl⟩
  have HMB := Lib.hid (show w.heap.size ≤ mb by omega)
  have HM1 := Lib.hid (show SeenAt w0 mb 0 (fun _ => false) by rw [← hmb]; exact HM0.out)
  rw [hmb]
  clear hmb HM0
  go_wp2_with fail
  go_loopw [9] (fun i wr => ∃ (j : Nat) (S : List UInt8 → Bool), j ≤ l.length ∧ i = .int .i64 j ∧ Below w.heap.size w wr ∧ SeenAt wr mb j S ∧ (∀ k, S k = (l.take j).any (fun v => decide (Sh.strOf v = k))) ∧ Sh.textsL (l.take j) = true) (fun i _ => l.length - (intOf i).toNat)
  case atStart => exact ⟨0, _, by omega, rfl, HB0.out, HM1.out, fun k => rfl, Sh.textsL_nil⟩
  case round =>
    obtain ⟨j, S, hj, rfl, hb, hM, hS, htx⟩ := hrel
    have HB := Lib.hid hb
    have HM := Lib.hid hM
    have HSE := Lib.hid hS
    have HTX := Lib.hid htx
    clear hb hM hS htx
    by_cases hlt : j < l.length
    · obtain ⟨g, o, kj, bj, nj, sj, lj, mj, Aj, ej, Bj, dj, rfl, hu, hc⟩ := el_parts HS.out (List.getElem?_eq_getElem hlt)
      have hb1 := (Below.refl wr.heap.size wr).alloc (Nat.le_refl _) (.cells #[.int .i64 kj, .bool bj, .bool nj.neg, .string ⟨nj.digits.toArray⟩, .int .i64 nj.exp, .string ⟨sj.toArray⟩, .slice Aj lj.length ej, .slice Bj mj.length dj] 28)
      have HB1 := Lib.hid (HB.out.trans (hb1.mono HB.out.size))
      have HM1 := Lib.hid (HM.out.far (hb1.block _ HM.out.lt))
      have HK1 := Lib.hid (Blk.new wr 28 #[.int .i64 kj, .bool bj, .bool nj.neg, .string ⟨nj.digits.toArray⟩, .int .i64 nj.exp, .string ⟨sj.toArray⟩, .slice Aj lj.length ej, .slice Bj mj.length dj])
      obtain ⟨e0, e1, e2, e3, e4, e5, e6, e7⟩ := (hc.keep (le_below HB.out)).eight
      have hjj : (j : Int) < (l.length : Int) := by omega
      have hgl := World.block_lt_of_cell? _ _ e0
      have HU := Lib.hid hu
      have hsl : sj.length ≤ 1000000 := by have := HK.out l[j] (List.getElem_mem hlt); rw [hu] at this; exact this
      clear hu hc hb1
      go_upto_region 5 with (fail)
      generalize wr.alloc (.cells #[.int .i64 kj, .bool bj, .bool nj.neg, .string ⟨nj.digits.toArray⟩, .int .i64 nj.exp, .string ⟨sj.toArray⟩, .slice Aj lj.length ej, .slice Bj mj.length dj] 28) = w1 at *
      generalize wr.heap.size = g1 at *
      clear e0 e1 e2 e3 e4 e5 e6 e7 hgl
      obtain ⟨a0, a1, a2, a3, a4, a5, a6, a7⟩ := HK1.out.eight
      have hkl := HK1.out.lt
      by_cases h3 : kj = 3
      · have t3 : (kj == 3) = true := by simpa using h3
        have t3' : (kj != 3) = false := by simpa using h3
        have hlk := HM1.out.look sj (by omega)
        obtain ⟨sb, hsb⟩ : ∃ sb, S sj = sb := ⟨_, rfl⟩
        rw [hsb] at hlk
        cases sb with
        | true =>
          have HF := Lib.hid (Sh.seen_yes hlt HSE.out (by rw [HU.out]; exact hsb))
          clear h3 hsb
          go_wp2_with fail
          go_ret
          exact ⟨by rw [HF.out]; rfl, HB1.out⟩
        | false =>
          have HF := Lib.hid (Sh.textsL_next hlt HTX.out (by rw [HU.out]; exact h3) (Sh.seen_no hlt HSE.out (by rw [HU.out]; exact hsb)))
          have HSN := Lib.hid (Sh.seen_next hlt HSE.out)
          obtain ⟨w4, hput, hM4, hg4⟩ := HM1.out.put sj (by omega) (by omega)
          have HM4 := Lib.hid hM4
          have HB4 := Lib.hid (HB1.out.grown hg4 HB1.out.size (fun q hq => by injection hq with hq; have := HMB.out; omega))
          clear h3 hsb hM4 hg4
          go_wp2_with fail
          go_roundw
          case rel => exact ⟨j + 1, _, by omega, by go_num, HB4.out, HM4.out, fun k => by rw [← HSN.out k, HU.out]; rfl, HF.out⟩
          case measure => simp [intOf]; omega
      · have t3 : (kj == 3) = false := by simpa using h3
        have t3' : (kj != 3) = true := by simpa using h3
        have HF := Lib.hid (show Sh.textsL l = false from Sh.textsL_kind hlt (by rw [HU.out]; exact h3))
        clear h3
        go_wp2_with fail
        go_ret
        exact ⟨by rw [HF.out]; rfl, HB1.out⟩
    · obtain rfl : j = l.length := by omega
      have HF := Lib.hid (show Sh.textsL l = true by have := HTX.out; rwa [List.take_length] at this)
      go_wp2_with fail
      go_ret
      exact ⟨by rw [HF.out]; rfl, HB.out⟩

end Go.Proofs.YtlhinefalkfjaaaGreatDoor

namespace Go.Proofs.YtlhinefalkfjaaaGreatDoor
open Go.RowKit Js

theorem Part10.drew {gV : Nat} {V : Array Value} {wr W : World} (h : Part10 gV V wr W) : Part10 gV V wr W.drew := ⟨h.v, h.since.drew⟩
theorem Sh.may_num {k : Int} {b : Bool} {n : Nm.Num} {s : List UInt8} {l : List Vl} {m : List Js.Mem} (h : (Vl.mk k b n s l m).may = true) : mayNum n = true := by
  simp only [Vl.may, Bool.and_eq_true] at h
  exact h.1.1.1.2
theorem Sh.may_fair {n : Nm.Num} (h : mayNum n = true) : Nm.Fair n := by
  unfold mayNum at h
  split at h
  · rename_i h0
    simp only [Bool.and_eq_true, decide_eq_true_eq] at h
    exact ⟨by rw [h0]; simp, by omega, by omega⟩
  · simp only [Bool.and_eq_true, decide_eq_true_eq] at h
    exact ⟨by omega, by omega, by omega⟩
theorem Sh.ofZero : (Nm.parse (Lib.itoa 0)).1 = Nm.Num.zero := by kernel_rfl
theorem Sh.count_eq {b : Bool} {n : Nm.Num} {s : List UInt8} {l : List Vl} {m : List Js.Mem} (h : mayNum n = true) : Sh.okOf 5 (.mk 2 b n s l m) = (decide (0 ≤ n.exp) && decide (0 ≤ Nm.cmp n Nm.Num.zero)) := by
  obtain ⟨neg, dg, ex⟩ := n
  unfold mayNum at h
  cases dg with
  | nil =>
    simp only [if_true, Bool.and_eq_true, Bool.not_eq_true', decide_eq_true_eq] at h
    obtain ⟨rfl, rfl⟩ := h
    rw [show Nm.cmp ⟨false, [], 0⟩ Nm.Num.zero = 0 by kernel_rfl]
    simp [Sh.okOf]
  | cons c r =>
    clear h
    have e1 : Sh.okOf 5 (.mk 2 b ⟨neg, c :: r, ex⟩ s l m) = (decide (0 ≤ ex) && !neg) := by simp [Sh.okOf]
    rw [e1]
    congr 1
    cases neg with
    | true => simp [Nm.cmp, Nm.sign, Nm.Num.zero, Lib.compareInt]
    | false => simp [Nm.cmp, Nm.sign, Nm.Num.zero, Lib.compareInt]
theorem Sh.count_no {k : Int} {b : Bool} {n : Nm.Num} {s : List UInt8} {l : List Vl} {m : List Js.Mem} (h : ¬ k = 2) : Sh.okOf 5 (.mk k b n s l m) = false := by simp [Sh.okOf, h]

set_option linter.unusedVariables false in
set_option linter.unusedSimpArgs false in
set_option maxRecDepth 100000 in
set_option maxHeartbeats 2000000 in
theorem isCount_any (v : Vl) (x : Value) (w : World) (hT : Tab w) (hm : v.may = true) (hx : v.In w.cell? x) : Calls Tryz.prog 60 #[x] w fun e w' => e = .returned (.bool (Sh.okOf 5 v)) ∧ Below w.heap.size w w' := by
  obtain ⟨k, b, n, s, l, m⟩ := v
  obtain ⟨A, e, B, d, rfl, -, -, -, -, -, -⟩ := In.form hx
  obtain ⟨neg, dg, ex⟩ := n
  have hmn := Sh.may_num hm
  have HT := Lib.hid hT
  clear hx hm hT
  have HP := Lib.hid (show Part10 w.heap.size #[.int .i64 k, .bool b, .bool neg, .string ⟨dg.toArray⟩, .int .i64 ex, .string ⟨s.toArray⟩, .slice A l.length e, .slice B m.length d] w (w.alloc (.cells #[.int .i64 k, .bool b, .bool neg, .string ⟨dg.toArray⟩, .int .i64 ex, .string ⟨s.toArray⟩, .slice A l.length e, .slice B m.length d] 28)) from ⟨Blk.new w _ _, (Below.refl w.heap.size w).alloc (Nat.le_refl _) _⟩)
  by_cases h2 : k = 2
  · subst h2
    have HF := Lib.hid (Sh.count_eq (b := b) (s := s) (l := l) (m := m) hmn)
    have HFA := Lib.hid (Sh.may_fair hmn)
    have HWH := Lib.hid (fun (W : World) => whole_any neg dg ex W)
    have HOF := Lib.hid (fun (W : World) (h : Part10 w.heap.size #[.int .i64 2, .bool b, .bool neg, .string ⟨dg.toArray⟩, .int .i64 ex, .string ⟨s.toArray⟩, .slice A l.length e, .slice B m.length d] w W) => of_any 0 W (by decide) (by decide) (HT.out.keep h.since))
    have HCM := Lib.hid (fun (W : World) (h : Part10 w.heap.size #[.int .i64 2, .bool b, .bool neg, .string ⟨dg.toArray⟩, .int .i64 ex, .string ⟨s.toArray⟩, .slice A l.length e, .slice B m.length d] w W) => cmp_any neg dg ex false [] 0 W HFA.out ⟨by simp, by decide, by decide⟩)
    rw [Sh.ofZero, show numV Nm.Num.zero = .agg #[.bool false, .string ⟨([] : List UInt8).toArray⟩, .int .i64 0] from rfl] at HOF
    rw [show (⟨false, [], 0⟩ : Nm.Num) = Nm.Num.zero from rfl] at HCM
    simp only at HF
    generalize Nm.cmp ⟨neg, dg, ex⟩ Nm.Num.zero = c at HF HCM
    obtain ⟨r, hr⟩ : ∃ r, decide (0 ≤ c) = r := ⟨_, rfl⟩
    have hr2 : decide (c ≥ 0) = r := hr
    rw [hr] at HF
    clear hmn
    by_cases h0 : 0 ≤ ex
    · rw [decide_eq_true h0] at HWH HF
      clear h0
      go_enter Tryz.func60, Tryz.ntmps60
      go_upto_region 1 with (fail)
      refine wp_region_held_drew (S := Part10 w.heap.size #[.int .i64 2, .bool b, .bool neg, .string ⟨dg.toArray⟩, .int .i64 ex, .string ⟨s.toArray⟩, .slice A l.length e, .slice B m.length d] w) (by kernel_rfl) HP.out.drew (fun ht => ?_)
      refine wpAnyH_take (i := 0) (oi := ⟨some _, _, _, _, _, _⟩) (v := (.pointer (some ⟨w.heap.size, 0, none⟩))) rfl (by kernel_rfl) (by kernel_rfl) (by kernel_rfl) (fun _ _ _ h => h) (Or.inl ⟨by rfl, ?_⟩) ht ?_
      · intro W9 hSw
        obtain ⟨e0, e1, e2, e3, e4, e5, e6, e7⟩ := hSw.v.eight
        go_simp
      try simp only [Act.put, List.setIfInBounds_toArray, List.set_cons_zero, List.set_cons_succ]
      refine wpAnyH_take (i := 1) (oi := ⟨some _, _, _, _, _, _⟩) (v := (.int .i64 2)) rfl (by kernel_rfl) (by kernel_rfl) (by kernel_rfl) (fun _ _ _ h => h) (Or.inl ⟨by rfl, ?_⟩) ht ?_
      · intro W9 hSw
        obtain ⟨e0, e1, e2, e3, e4, e5, e6, e7⟩ := hSw.v.eight
        go_simp
      try simp only [Act.put, List.setIfInBounds_toArray, List.set_cons_zero, List.set_cons_succ]
      refine wpAnyH_take (i := 2) (oi := ⟨some _, _, _, _, _, _⟩) (v := (.bool true)) rfl (by kernel_rfl) (by kernel_rfl) (by kernel_rfl) (fun _ _ _ h => h) (Or.inl ⟨by rfl, ?_⟩) ht ?_
      · intro W9 hSw
        obtain ⟨e0, e1, e2, e3, e4, e5, e6, e7⟩ := hSw.v.eight
        go_simp
      try simp only [Act.put, List.setIfInBounds_toArray, List.set_cons_zero, List.set_cons_succ]
      refine wpAnyH_take (i := 3) (oi := ⟨some _, _, _, _, _, _⟩) (v := (.bool true)) rfl (by kernel_rfl) (by kernel_rfl) (by kernel_rfl) (fun _ _ _ h => h) (Or.inl ⟨by rfl, ?_⟩) ht ?_
      · intro W9 hSw
        obtain ⟨e0, e1, e2, e3, e4, e5, e6, e7⟩ := hSw.v.eight
        go_simp
      try simp only [Act.put, List.setIfInBounds_toArray, List.set_cons_zero, List.set_cons_succ]
      refine wpAnyH_take (i := 4) (oi := ⟨some _, _, _, _, _, _⟩) (v := (.pointer (some ⟨w.heap.size, 2, none⟩))) rfl (by kernel_rfl) (by kernel_rfl) (by kernel_rfl) (fun _ _ _ h => h) (Or.inl ⟨by rfl, ?_⟩) ht ?_
      · intro W9 hSw
        obtain ⟨e0, e1, e2, e3, e4, e5, e6, e7⟩ := hSw.v.eight
        go_simp
      try simp only [Act.put, List.setIfInBounds_toArray, List.set_cons_zero, List.set_cons_succ]
      refine wpAnyH_take (i := 5) (oi := ⟨some _, _, _, _, _, _⟩) (v := (.agg #[.bool neg, .string ⟨dg.toArray⟩, .int .i64 ex])) rfl (by kernel_rfl) (by kernel_rfl) (by kernel_rfl) (fun _ _ _ h => h) (Or.inl ⟨by rfl, ?_⟩) ht ?_
      · intro W9 hSw
        obtain ⟨e0, e1, e2, e3, e4, e5, e6, e7⟩ := hSw.v.eight
        go_simp
      try simp only [Act.put, List.setIfInBounds_toArray, List.set_cons_zero, List.set_cons_succ]
      refine wpAnyH_ready (rs := [6]) (by kernel_rfl) (by simp) ?_
      refine AllReadyH.cons (o := ⟨some _, _, _, _, _, _⟩) rfl (fun K hK => ?_) AllReadyH.nil
      go_simp
      refine (HWH.out _).mono ?_
      rintro e66 w66 ⟨rfl, hb66⟩
      have hs : Part10 w.heap.size #[.int .i64 2, .bool b, .bool neg, .string ⟨dg.toArray⟩, .int .i64 ex, .string ⟨s.toArray⟩, .slice A l.length e, .slice B m.length d] w w66 := Part10.on ht hb66
      clear hb66 ht
      go_wp2_with fail
      refine hK.out _ _ hs (fun ht => ?_)
      clear hK K hs
      try simp only [Act.put, List.setIfInBounds_toArray, List.set_cons_zero, List.set_cons_succ]
      refine wpAnyH_take (i := 7) (oi := ⟨some _, _, _, _, _, _⟩) (v := (.bool true)) rfl (by kernel_rfl) (by kernel_rfl) (by kernel_rfl) (fun _ _ _ h => h) (Or.inl ⟨by rfl, ?_⟩) ht ?_
      · intro W9 hSw
        obtain ⟨e0, e1, e2, e3, e4, e5, e6, e7⟩ := hSw.v.eight
        go_simp
      try simp only [Act.put, List.setIfInBounds_toArray, List.set_cons_zero, List.set_cons_succ]
      refine wpAnyH_take (i := 8) (oi := ⟨some _, _, _, _, _, _⟩) (v := (.bool true)) rfl (by kernel_rfl) (by kernel_rfl) (by kernel_rfl) (fun _ _ _ h => h) (Or.inl ⟨by rfl, ?_⟩) ht ?_
      · intro W9 hSw
        obtain ⟨e0, e1, e2, e3, e4, e5, e6, e7⟩ := hSw.v.eight
        go_simp
      try simp only [Act.put, List.setIfInBounds_toArray, List.set_cons_zero, List.set_cons_succ]
      refine wpAnyH_take (i := 9) (oi := ⟨some _, _, _, _, _, _⟩) (v := (.pointer (some ⟨w.heap.size, 2, none⟩))) rfl (by kernel_rfl) (by kernel_rfl) (by kernel_rfl) (fun _ _ _ h => h) (Or.inl ⟨by rfl, ?_⟩) ht ?_
      · intro W9 hSw
        obtain ⟨e0, e1, e2, e3, e4, e5, e6, e7⟩ := hSw.v.eight
        go_simp
      try simp only [Act.put, List.setIfInBounds_toArray, List.set_cons_zero, List.set_cons_succ]
      refine wpAnyH_take (i := 10) (oi := ⟨some _, _, _, _, _, _⟩) (v := (.agg #[.bool neg, .string ⟨dg.toArray⟩, .int .i64 ex])) rfl (by kernel_rfl) (by kernel_rfl) (by kernel_rfl) (fun _ _ _ h => h) (Or.inl ⟨by rfl, ?_⟩) ht ?_
      · intro W9 hSw
        obtain ⟨e0, e1, e2, e3, e4, e5, e6, e7⟩ := hSw.v.eight
        go_simp
      try simp only [Act.put, List.setIfInBounds_toArray, List.set_cons_zero, List.set_cons_succ]
      refine wpAnyH_ready (rs := [11]) (by kernel_rfl) (by simp) ?_
      refine AllReadyH.cons (o := ⟨some _, _, _, _, _, _⟩) rfl (fun K hK => ?_) AllReadyH.nil
      go_simp
      refine (HOF.out _ ht).mono ?_
      rintro e66 w66 ⟨rfl, hb66⟩
      have hs : Part10 w.heap.size #[.int .i64 2, .bool b, .bool neg, .string ⟨dg.toArray⟩, .int .i64 ex, .string ⟨s.toArray⟩, .slice A l.length e, .slice B m.length d] w w66 := Part10.on ht hb66
      clear hb66 ht
      go_wp2_with fail
      refine hK.out _ _ hs (fun ht => ?_)
      clear hK K hs
      try simp only [Act.put, List.setIfInBounds_toArray, List.set_cons_zero, List.set_cons_succ]
      refine wpAnyH_ready (rs := [12]) (by kernel_rfl) (by simp) ?_
      refine AllReadyH.cons (o := ⟨some _, _, _, _, _, _⟩) rfl (fun K hK => ?_) AllReadyH.nil
      go_simp
      refine (HCM.out _ ht).mono ?_
      rintro e66 w66 ⟨rfl, hb66⟩
      have hs : Part10 w.heap.size #[.int .i64 2, .bool b, .bool neg, .string ⟨dg.toArray⟩, .int .i64 ex, .string ⟨s.toArray⟩, .slice A l.length e, .slice B m.length d] w w66 := Part10.on ht hb66
      clear hb66 ht
      go_wp2_with fail
      refine hK.out _ _ hs (fun ht => ?_)
      clear hK K hs
      try simp only [Act.put, List.setIfInBounds_toArray, List.set_cons_zero, List.set_cons_succ]
      refine wpAnyH_take (i := 13) (oi := ⟨some _, _, _, _, _, _⟩) (v := (.bool r)) rfl (by kernel_rfl) (by kernel_rfl) (by kernel_rfl) (fun _ _ _ h => h) (Or.inl ⟨by rfl, ?_⟩) ht ?_
      · intro W9 hSw
        obtain ⟨e0, e1, e2, e3, e4, e5, e6, e7⟩ := hSw.v.eight
        go_simp
      try simp only [Act.put, List.setIfInBounds_toArray, List.set_cons_zero, List.set_cons_succ]
      refine wpAnyH_take (i := 14) (oi := ⟨some _, _, _, _, _, _⟩) (v := (.bool r)) rfl (by kernel_rfl) (by kernel_rfl) (by kernel_rfl) (fun _ _ _ h => h) (Or.inl ⟨by rfl, ?_⟩) ht ?_
      · intro W9 hSw
        obtain ⟨e0, e1, e2, e3, e4, e5, e6, e7⟩ := hSw.v.eight
        go_simp
      try simp only [Act.put, List.setIfInBounds_toArray, List.set_cons_zero, List.set_cons_succ]
      refine wpAnyH_take (i := 15) (oi := ⟨some _, _, _, _, _, _⟩) (v := (.bool r)) rfl (by kernel_rfl) (by kernel_rfl) (by kernel_rfl) (fun _ _ _ h => h) (Or.inl ⟨by rfl, ?_⟩) ht ?_
      · intro W9 hSw
        obtain ⟨e0, e1, e2, e3, e4, e5, e6, e7⟩ := hSw.v.eight
        go_simp
      try simp only [Act.put, List.setIfInBounds_toArray, List.set_cons_zero, List.set_cons_succ]
      refine wpAnyH_done (by kernel_rfl) ?_ _
      have HX := Lib.hid ht
      clear ht
      go_wp2_with fail
      go_ret
      exact ⟨by rw [HF.out]; simp, HX.out.since⟩
    · rw [decide_eq_false h0] at HWH HF
      clear h0
      go_enter Tryz.func60, Tryz.ntmps60
      go_upto_region 1 with (fail)
      refine wp_region_held_drew (S := Part10 w.heap.size #[.int .i64 2, .bool b, .bool neg, .string ⟨dg.toArray⟩, .int .i64 ex, .string ⟨s.toArray⟩, .slice A l.length e, .slice B m.length d] w) (by kernel_rfl) HP.out.drew (fun ht => ?_)
      refine wpAnyH_take (i := 0) (oi := ⟨some _, _, _, _, _, _⟩) (v := (.pointer (some ⟨w.heap.size, 0, none⟩))) rfl (by kernel_rfl) (by kernel_rfl) (by kernel_rfl) (fun _ _ _ h => h) (Or.inl ⟨by rfl, ?_⟩) ht ?_
      · intro W9 hSw
        obtain ⟨e0, e1, e2, e3, e4, e5, e6, e7⟩ := hSw.v.eight
        go_simp
      try simp only [Act.put, List.setIfInBounds_toArray, List.set_cons_zero, List.set_cons_succ]
      refine wpAnyH_take (i := 1) (oi := ⟨some _, _, _, _, _, _⟩) (v := (.int .i64 2)) rfl (by kernel_rfl) (by kernel_rfl) (by kernel_rfl) (fun _ _ _ h => h) (Or.inl ⟨by rfl, ?_⟩) ht ?_
      · intro W9 hSw
        obtain ⟨e0, e1, e2, e3, e4, e5, e6, e7⟩ := hSw.v.eight
        go_simp
      try simp only [Act.put, List.setIfInBounds_toArray, List.set_cons_zero, List.set_cons_succ]
      refine wpAnyH_take (i := 2) (oi := ⟨some _, _, _, _, _, _⟩) (v := (.bool true)) rfl (by kernel_rfl) (by kernel_rfl) (by kernel_rfl) (fun _ _ _ h => h) (Or.inl ⟨by rfl, ?_⟩) ht ?_
      · intro W9 hSw
        obtain ⟨e0, e1, e2, e3, e4, e5, e6, e7⟩ := hSw.v.eight
        go_simp
      try simp only [Act.put, List.setIfInBounds_toArray, List.set_cons_zero, List.set_cons_succ]
      refine wpAnyH_take (i := 3) (oi := ⟨some _, _, _, _, _, _⟩) (v := (.bool true)) rfl (by kernel_rfl) (by kernel_rfl) (by kernel_rfl) (fun _ _ _ h => h) (Or.inl ⟨by rfl, ?_⟩) ht ?_
      · intro W9 hSw
        obtain ⟨e0, e1, e2, e3, e4, e5, e6, e7⟩ := hSw.v.eight
        go_simp
      try simp only [Act.put, List.setIfInBounds_toArray, List.set_cons_zero, List.set_cons_succ]
      refine wpAnyH_take (i := 4) (oi := ⟨some _, _, _, _, _, _⟩) (v := (.pointer (some ⟨w.heap.size, 2, none⟩))) rfl (by kernel_rfl) (by kernel_rfl) (by kernel_rfl) (fun _ _ _ h => h) (Or.inl ⟨by rfl, ?_⟩) ht ?_
      · intro W9 hSw
        obtain ⟨e0, e1, e2, e3, e4, e5, e6, e7⟩ := hSw.v.eight
        go_simp
      try simp only [Act.put, List.setIfInBounds_toArray, List.set_cons_zero, List.set_cons_succ]
      refine wpAnyH_take (i := 5) (oi := ⟨some _, _, _, _, _, _⟩) (v := (.agg #[.bool neg, .string ⟨dg.toArray⟩, .int .i64 ex])) rfl (by kernel_rfl) (by kernel_rfl) (by kernel_rfl) (fun _ _ _ h => h) (Or.inl ⟨by rfl, ?_⟩) ht ?_
      · intro W9 hSw
        obtain ⟨e0, e1, e2, e3, e4, e5, e6, e7⟩ := hSw.v.eight
        go_simp
      try simp only [Act.put, List.setIfInBounds_toArray, List.set_cons_zero, List.set_cons_succ]
      refine wpAnyH_ready (rs := [6]) (by kernel_rfl) (by simp) ?_
      refine AllReadyH.cons (o := ⟨some _, _, _, _, _, _⟩) rfl (fun K hK => ?_) AllReadyH.nil
      go_simp
      refine (HWH.out _).mono ?_
      rintro e66 w66 ⟨rfl, hb66⟩
      have hs : Part10 w.heap.size #[.int .i64 2, .bool b, .bool neg, .string ⟨dg.toArray⟩, .int .i64 ex, .string ⟨s.toArray⟩, .slice A l.length e, .slice B m.length d] w w66 := Part10.on ht hb66
      clear hb66 ht
      go_wp2_with fail
      refine hK.out _ _ hs (fun ht => ?_)
      clear hK K hs
      try simp only [Act.put, List.setIfInBounds_toArray, List.set_cons_zero, List.set_cons_succ]
      refine wpAnyH_take (i := 7) (oi := ⟨some _, _, _, _, _, _⟩) (v := (.bool false)) rfl (by kernel_rfl) (by kernel_rfl) (by kernel_rfl) (fun _ _ _ h => h) (Or.inl ⟨by rfl, ?_⟩) ht ?_
      · intro W9 hSw
        obtain ⟨e0, e1, e2, e3, e4, e5, e6, e7⟩ := hSw.v.eight
        go_simp
      try simp only [Act.put, List.setIfInBounds_toArray, List.set_cons_zero, List.set_cons_succ]
      refine wpAnyH_take (i := 8) (oi := ⟨some _, _, _, _, _, _⟩) (v := (.bool false)) rfl (by kernel_rfl) (by kernel_rfl) (by kernel_rfl) (fun _ _ _ h => h) (Or.inl ⟨by rfl, ?_⟩) ht ?_
      · intro W9 hSw
        obtain ⟨e0, e1, e2, e3, e4, e5, e6, e7⟩ := hSw.v.eight
        go_simp
      try simp only [Act.put, List.setIfInBounds_toArray, List.set_cons_zero, List.set_cons_succ]
      refine wpAnyH_take (i := 9) (oi := ⟨some _, _, _, _, _, _⟩) (v := undef) rfl (by kernel_rfl) (by kernel_rfl) (by kernel_rfl) (fun _ _ _ h => h) (Or.inr ⟨by rfl, rfl⟩) ht ?_
      try simp only [Act.put, List.setIfInBounds_toArray, List.set_cons_zero, List.set_cons_succ]
      refine wpAnyH_take (i := 10) (oi := ⟨some _, _, _, _, _, _⟩) (v := undef) rfl (by kernel_rfl) (by kernel_rfl) (by kernel_rfl) (fun _ _ _ h => h) (Or.inr ⟨by rfl, rfl⟩) ht ?_
      try simp only [Act.put, List.setIfInBounds_toArray, List.set_cons_zero, List.set_cons_succ]
      refine wpAnyH_take (i := 11) (oi := ⟨some _, _, _, _, _, _⟩) (v := undef) rfl (by kernel_rfl) (by kernel_rfl) (by kernel_rfl) (fun _ _ _ h => h) (Or.inr ⟨by rfl, rfl⟩) ht ?_
      try simp only [Act.put, List.setIfInBounds_toArray, List.set_cons_zero, List.set_cons_succ]
      refine wpAnyH_take (i := 12) (oi := ⟨some _, _, _, _, _, _⟩) (v := undef) rfl (by kernel_rfl) (by kernel_rfl) (by kernel_rfl) (fun _ _ _ h => h) (Or.inr ⟨by rfl, rfl⟩) ht ?_
      try simp only [Act.put, List.setIfInBounds_toArray, List.set_cons_zero, List.set_cons_succ]
      refine wpAnyH_take (i := 13) (oi := ⟨some _, _, _, _, _, _⟩) (v := undef) rfl (by kernel_rfl) (by kernel_rfl) (by kernel_rfl) (fun _ _ _ h => h) (Or.inr ⟨by rfl, rfl⟩) ht ?_
      try simp only [Act.put, List.setIfInBounds_toArray, List.set_cons_zero, List.set_cons_succ]
      refine wpAnyH_take (i := 14) (oi := ⟨some _, _, _, _, _, _⟩) (v := (.bool false)) rfl (by kernel_rfl) (by kernel_rfl) (by kernel_rfl) (fun _ _ _ h => h) (Or.inl ⟨by rfl, ?_⟩) ht ?_
      · intro W9 hSw
        obtain ⟨e0, e1, e2, e3, e4, e5, e6, e7⟩ := hSw.v.eight
        go_simp
      try simp only [Act.put, List.setIfInBounds_toArray, List.set_cons_zero, List.set_cons_succ]
      refine wpAnyH_take (i := 15) (oi := ⟨some _, _, _, _, _, _⟩) (v := (.bool false)) rfl (by kernel_rfl) (by kernel_rfl) (by kernel_rfl) (fun _ _ _ h => h) (Or.inl ⟨by rfl, ?_⟩) ht ?_
      · intro W9 hSw
        obtain ⟨e0, e1, e2, e3, e4, e5, e6, e7⟩ := hSw.v.eight
        go_simp
      try simp only [Act.put, List.setIfInBounds_toArray, List.set_cons_zero, List.set_cons_succ]
      refine wpAnyH_done (by kernel_rfl) ?_ _
      have HX := Lib.hid ht
      clear ht
      go_wp2_with fail
      go_ret
      exact ⟨by rw [HF.out]; simp, HX.out.since⟩
  · have t2 : (k == 2) = false := by simpa using h2
    have HF := Lib.hid (Sh.count_no (b := b) (n := ⟨neg, dg, ex⟩) (s := s) (l := l) (m := m) h2)
    clear h2 hmn
    go_enter Tryz.func60, Tryz.ntmps60
    go_upto_region 1 with (fail)
    go_quiet (fail)
    go_wp2_with fail
    go_ret
    exact ⟨by rw [HF.out]; rfl, below_drewN HP.out.since _⟩

end Go.Proofs.YtlhinefalkfjaaaGreatDoor


