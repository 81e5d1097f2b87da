/- The walks of layer 10 (shape): the document's Shape. (By gen_ce.py.) -/
import Derived.Test.YtfolfibembplbaaGreatDoorCd
namespace Go.Proofs.YtfolfibembplbaaGreatDoor
open Go.RowKit Js

theorem Sh.shape_ok {nm : List UInt8} {q : Nat} {v : Vl} (h : Sh.kw nm = q) (hq : ¬ q = 0) (ho : Sh.okOf q v = true) : Sh.shape nm v = 0 := by rw [Sh.shape_eq v h hq, ho]; rfl
theorem Sh.shape_no {nm : List UInt8} {q : Nat} {v : Vl} (h : Sh.kw nm = q) (hq : ¬ q = 0) (ho : Sh.okOf q v = false) : Sh.shape nm v = 11 := by rw [Sh.shape_eq v h hq, ho]; rfl

set_option linter.unusedVariables false in
set_option linter.unusedSimpArgs false in
set_option maxRecDepth 100000 in
set_option maxHeartbeats 2000000 in
theorem shape_enum (nm : List UInt8) (hn : nm = [101, 110, 117, 109]) (k : Int) (b neg : Bool) (dg : List UInt8) (ex : Int) (s : List UInt8) (l : List Vl) (m : List Js.Mem) (A : Option Addr) (e : Nat) (B : Option Addr) (d : Nat) (w : World) (hx : (Vl.mk k b ⟨neg, dg, ex⟩ s l m).In w.cell? (.agg #[.int .i64 k, .bool b, .bool neg, .string ⟨dg.toArray⟩, .int .i64 ex, .string ⟨s.toArray⟩, .slice A l.length e, .slice B m.length d])) (q1 : l.length ≤ e) (q2 : e ≤ maxLen) (q3 : m.length ≤ d) (q4 : d ≤ maxLen) (q5 : SlL w.cell? A l) (q6 : SlM w.cell? B m) (hsz : l.length ≤ 1000000) :
    Calls Tryz.prog 6 #[.string ⟨nm.toArray⟩, .agg #[.int .i64 k, .bool b, .bool neg, .string ⟨dg.toArray⟩, .int .i64 ex, .string ⟨s.toArray⟩, .slice A l.length e, .slice B m.length d]] w fun e w' => e = .returned (.int .i64 (Sh.shape nm (.mk k b ⟨neg, dg, ex⟩ s l m))) ∧ Below w.heap.size w w' := by
  have HQ := Lib.hid (show Sh.kw nm = 2 by rcases hn with rfl <;> decide)
  subst hn
  unfold maxLen at q2 q4
  clear hx q5 q6 hsz
  by_cases h4 : k = 4
  · have t4 : (k == 4) = true := by simpa using h4
    by_cases hl : 0 < l.length
    · have tl : decide ((0 : Int) < (l.length : Int)) = true := decide_eq_true (by omega)
      have tn : decide (0 < l.length) = true := decide_eq_true hl
      have HF := Lib.hid (Sh.shape_ok (v := (.mk k b ⟨neg, dg, ex⟩ s l m)) HQ.out (by decide) (by simp only [Sh.okOf, decide_eq_true h4, decide_eq_true hl]; rfl))
      clear h4 hl
      go_enter Tryz.func6, Tryz.ntmps6
      go_wp2_with fail
      go_ret
      exact ⟨by rw [HF.out]; rfl, Boxed.start.below⟩
    · have tl : decide ((0 : Int) < (l.length : Int)) = false := decide_eq_false (by omega)
      have tn : decide (0 < l.length) = false := decide_eq_false hl
      have HF := Lib.hid (Sh.shape_no (v := (.mk k b ⟨neg, dg, ex⟩ s l m)) HQ.out (by decide) (by simp only [Sh.okOf, decide_eq_false hl, Bool.and_false]))
      clear h4 hl
      go_enter Tryz.func6, Tryz.ntmps6
      go_wp2_with fail
      go_ret
      exact ⟨by rw [HF.out]; rfl, Boxed.start.below⟩
  · have t4 : (k == 4) = false := by simpa using h4
    have HF := Lib.hid (Sh.shape_no (v := (.mk k b ⟨neg, dg, ex⟩ s l m)) HQ.out (by decide) (by simp only [Sh.okOf, decide_eq_false h4, Bool.false_and]))
    clear h4
    go_enter Tryz.func6, Tryz.ntmps6
    go_wp2_with fail
    go_ret
    exact ⟨by rw [HF.out]; rfl, Boxed.start.below⟩

set_option linter.unusedVariables false in
set_option linter.unusedSimpArgs false in
set_option maxRecDepth 100000 in
set_option maxHeartbeats 2000000 in
theorem shape_const (nm : List UInt8) (hn : nm = [99, 111, 110, 115, 116]) (k : Int) (b neg : Bool) (dg : List UInt8) (ex : Int) (s : List UInt8) (l : List Vl) (m : List Js.Mem) (A : Option Addr) (e : Nat) (B : Option Addr) (d : Nat) (w : World) (hx : (Vl.mk k b ⟨neg, dg, ex⟩ s l m).In w.cell? (.agg #[.int .i64 k, .bool b, .bool neg, .string ⟨dg.toArray⟩, .int .i64 ex, .string ⟨s.toArray⟩, .slice A l.length e, .slice B m.length d])) (q1 : l.length ≤ e) (q2 : e ≤ maxLen) (q3 : m.length ≤ d) (q4 : d ≤ maxLen) (q5 : SlL w.cell? A l) (q6 : SlM w.cell? B m) (hsz : l.length ≤ 1000000) :
    Calls Tryz.prog 6 #[.string ⟨nm.toArray⟩, .agg #[.int .i64 k, .bool b, .bool neg, .string ⟨dg.toArray⟩, .int .i64 ex, .string ⟨s.toArray⟩, .slice A l.length e, .slice B m.length d]] w fun e w' => e = .returned (.int .i64 (Sh.shape nm (.mk k b ⟨neg, dg, ex⟩ s l m))) ∧ Below w.heap.size w w' := by
  have HQ := Lib.hid (show Sh.kw nm = 3 by rcases hn with rfl <;> decide)
  subst hn
  unfold maxLen at q2 q4
  clear hx q5 q6 hsz
  have HF := Lib.hid (Sh.shape_ok (v := (.mk k b ⟨neg, dg, ex⟩ s l m)) HQ.out (by decide) (rfl))
  go_enter Tryz.func6, Tryz.ntmps6
  go_wp2_with fail
  go_ret
  exact ⟨by rw [HF.out]; rfl, Boxed.start.below⟩

set_option linter.unusedVariables false in
set_option linter.unusedSimpArgs false in
set_option maxRecDepth 100000 in
set_option maxHeartbeats 2000000 in
theorem shape_number (nm : List UInt8) (hn : nm = [109, 105, 110, 105, 109, 117, 109] ∨ nm = [109, 97, 120, 105, 109, 117, 109]) (k : Int) (b neg : Bool) (dg : List UInt8) (ex : Int) (s : List UInt8) (l : List Vl) (m : List Js.Mem) (A : Option Addr) (e : Nat) (B : Option Addr) (d : Nat) (w : World) (hx : (Vl.mk k b ⟨neg, dg, ex⟩ s l m).In w.cell? (.agg #[.int .i64 k, .bool b, .bool neg, .string ⟨dg.toArray⟩, .int .i64 ex, .string ⟨s.toArray⟩, .slice A l.length e, .slice B m.length d])) (q1 : l.length ≤ e) (q2 : e ≤ maxLen) (q3 : m.length ≤ d) (q4 : d ≤ maxLen) (q5 : SlL w.cell? A l) (q6 : SlM w.cell? B m) (hsz : l.length ≤ 1000000) :
    Calls Tryz.prog 6 #[.string ⟨nm.toArray⟩, .agg #[.int .i64 k, .bool b, .bool neg, .string ⟨dg.toArray⟩, .int .i64 ex, .string ⟨s.toArray⟩, .slice A l.length e, .slice B m.length d]] w fun e w' => e = .returned (.int .i64 (Sh.shape nm (.mk k b ⟨neg, dg, ex⟩ s l m))) ∧ Below w.heap.size w w' := by
  have HQ := Lib.hid (show Sh.kw nm = 4 by rcases hn with rfl | rfl <;> decide)
  rcases hn with rfl | rfl
  all_goals
    unfold maxLen at q2 q4
    clear hx q5 q6 hsz
    by_cases h2 : k = 2
    · have t2 : (k == 2) = true := by simpa using h2
      have HF := Lib.hid (Sh.shape_ok (v := (.mk k b ⟨neg, dg, ex⟩ s l m)) HQ.out (by decide) (decide_eq_true h2))
      clear h2
      go_enter Tryz.func6, Tryz.ntmps6
      go_wp2_with fail
      go_ret
      exact ⟨by rw [HF.out]; rfl, Boxed.start.below⟩
    · have t2 : (k == 2) = false := by simpa using h2
      have HF := Lib.hid (Sh.shape_no (v := (.mk k b ⟨neg, dg, ex⟩ s l m)) HQ.out (by decide) (decide_eq_false h2))
      clear h2
      go_enter Tryz.func6, Tryz.ntmps6
      go_wp2_with fail
      go_ret
      exact ⟨by rw [HF.out]; rfl, Boxed.start.below⟩

set_option linter.unusedVariables false in
set_option linter.unusedSimpArgs false in
set_option maxRecDepth 100000 in
set_option maxHeartbeats 2000000 in
theorem shape_bool (nm : List UInt8) (hn : nm = [117, 110, 105, 113, 117, 101, 73, 116, 101, 109, 115]) (k : Int) (b neg : Bool) (dg : List UInt8) (ex : Int) (s : List UInt8) (l : List Vl) (m : List Js.Mem) (A : Option Addr) (e : Nat) (B : Option Addr) (d : Nat) (w : World) (hx : (Vl.mk k b ⟨neg, dg, ex⟩ s l m).In w.cell? (.agg #[.int .i64 k, .bool b, .bool neg, .string ⟨dg.toArray⟩, .int .i64 ex, .string ⟨s.toArray⟩, .slice A l.length e, .slice B m.length d])) (q1 : l.length ≤ e) (q2 : e ≤ maxLen) (q3 : m.length ≤ d) (q4 : d ≤ maxLen) (q5 : SlL w.cell? A l) (q6 : SlM w.cell? B m) (hsz : l.length ≤ 1000000) :
    Calls Tryz.prog 6 #[.string ⟨nm.toArray⟩, .agg #[.int .i64 k, .bool b, .bool neg, .string ⟨dg.toArray⟩, .int .i64 ex, .string ⟨s.toArray⟩, .slice A l.length e, .slice B m.length d]] w fun e w' => e = .returned (.int .i64 (Sh.shape nm (.mk k b ⟨neg, dg, ex⟩ s l m))) ∧ Below w.heap.size w w' := by
  have HQ := Lib.hid (show Sh.kw nm = 6 by rcases hn with rfl <;> decide)
  subst hn
  unfold maxLen at q2 q4
  clear hx q5 q6 hsz
  by_cases h1 : k = 1
  · have t1 : (k == 1) = true := by simpa using h1
    have HF := Lib.hid (Sh.shape_ok (v := (.mk k b ⟨neg, dg, ex⟩ s l m)) HQ.out (by decide) (decide_eq_true h1))
    clear h1
    go_enter Tryz.func6, Tryz.ntmps6
    go_wp2_with fail
    go_ret
    exact ⟨by rw [HF.out]; rfl, Boxed.start.below⟩
  · have t1 : (k == 1) = false := by simpa using h1
    have HF := Lib.hid (Sh.shape_no (v := (.mk k b ⟨neg, dg, ex⟩ s l m)) HQ.out (by decide) (decide_eq_false h1))
    clear h1
    go_enter Tryz.func6, Tryz.ntmps6
    go_wp2_with fail
    go_ret
    exact ⟨by rw [HF.out]; rfl, Boxed.start.below⟩

set_option linter.unusedVariables false in
set_option linter.unusedSimpArgs false in
set_option maxRecDepth 100000 in
set_option maxHeartbeats 2000000 in
theorem shape_ref (nm : List UInt8) (hn : nm = [36, 114, 101, 102]) (k : Int) (b neg : Bool) (dg : List UInt8) (ex : Int) (s : List UInt8) (l : List Vl) (m : List Js.Mem) (A : Option Addr) (e : Nat) (B : Option Addr) (d : Nat) (w : World) (hx : (Vl.mk k b ⟨neg, dg, ex⟩ s l m).In w.cell? (.agg #[.int .i64 k, .bool b, .bool neg, .string ⟨dg.toArray⟩, .int .i64 ex, .string ⟨s.toArray⟩, .slice A l.length e, .slice B m.length d])) (q1 : l.length ≤ e) (q2 : e ≤ maxLen) (q3 : m.length ≤ d) (q4 : d ≤ maxLen) (q5 : SlL w.cell? A l) (q6 : SlM w.cell? B m) (hsz : l.length ≤ 1000000) :
    Calls Tryz.prog 6 #[.string ⟨nm.toArray⟩, .agg #[.int .i64 k, .bool b, .bool neg, .string ⟨dg.toArray⟩, .int .i64 ex, .string ⟨s.toArray⟩, .slice A l.length e, .slice B m.length d]] w fun e w' => e = .returned (.int .i64 (Sh.shape nm (.mk k b ⟨neg, dg, ex⟩ s l m))) ∧ Below w.heap.size w w' := by
  have HQ := Lib.hid (show Sh.kw nm = 11 by rcases hn with rfl <;> decide)
  subst hn
  unfold maxLen at q2 q4
  clear hx q5 q6 hsz
  by_cases h3 : k = 3
  · have t3 : (k == 3) = true := by simpa using h3
    have HF := Lib.hid (Sh.shape_ok (v := (.mk k b ⟨neg, dg, ex⟩ s l m)) HQ.out (by decide) (decide_eq_true h3))
    clear h3
    go_enter Tryz.func6, Tryz.ntmps6
    go_wp2_with fail
    go_ret
    exact ⟨by rw [HF.out]; rfl, Boxed.start.below⟩
  · have t3 : (k == 3) = false := by simpa using h3
    have HF := Lib.hid (Sh.shape_no (v := (.mk k b ⟨neg, dg, ex⟩ s l m)) HQ.out (by decide) (decide_eq_false h3))
    clear h3
    go_enter Tryz.func6, Tryz.ntmps6
    go_wp2_with fail
    go_ret
    exact ⟨by rw [HF.out]; rfl, Boxed.start.below⟩

set_option linter.unusedVariables false in
set_option linter.unusedSimpArgs false in
set_option maxRecDepth 100000 in
set_option maxHeartbeats 2000000 in
theorem shape_count (nm : List UInt8) (hn : nm = [109, 105, 110, 76, 101, 110, 103, 116, 104] ∨ nm = [109, 97, 120, 76, 101, 110, 103, 116, 104] ∨ nm = [109, 105, 110, 73, 116, 101, 109, 115] ∨ nm = [109, 97, 120, 73, 116, 101, 109, 115]) (k : Int) (b neg : Bool) (dg : List UInt8) (ex : Int) (s : List UInt8) (l : List Vl) (m : List Js.Mem) (A : Option Addr) (e : Nat) (B : Option Addr) (d : Nat) (w : World) (hx : (Vl.mk k b ⟨neg, dg, ex⟩ s l m).In w.cell? (.agg #[.int .i64 k, .bool b, .bool neg, .string ⟨dg.toArray⟩, .int .i64 ex, .string ⟨s.toArray⟩, .slice A l.length e, .slice B m.length d])) (q1 : l.length ≤ e) (q2 : e ≤ maxLen) (q3 : m.length ≤ d) (q4 : d ≤ maxLen) (q5 : SlL w.cell? A l) (q6 : SlM w.cell? B m) (hsz : l.length ≤ 1000000) :
    Calls Tryz.prog 6 #[.string ⟨nm.toArray⟩, .agg #[.int .i64 k, .bool b, .bool neg, .string ⟨dg.toArray⟩, .int .i64 ex, .string ⟨s.toArray⟩, .slice A l.length e, .slice B m.length d]] w fun e w' => e = .returned (.int .i64 (Sh.shape nm (.mk k b ⟨neg, dg, ex⟩ s l m))) ∧ Below w.heap.size w w' := by
  have HQ := Lib.hid (show Sh.kw nm = 5 by rcases hn with rfl | rfl | rfl | rfl <;> decide)
  rcases hn with rfl | rfl | rfl | rfl
  all_goals
    unfold maxLen at q2 q4
    clear hx q5 q6 hsz
    have HWH := Lib.hid (fun W => refWhole_any neg dg ex W)
    obtain ⟨wb, hwb⟩ : ∃ wb, (dg.isEmpty || decide (0 ≤ ex)) = wb := ⟨_, rfl⟩
    rw [hwb] at HWH
    have HWB := Lib.hid hwb
    clear hwb
    go_enter Tryz.func6, Tryz.ntmps6
    go_wp2_with fail
    refine (HWH.out _).mono ?_
    rintro e1 w1 ⟨rfl, hb1⟩
    have HB1 := Lib.hid (Boxed.start.next hb1 : Boxed w k b neg dg ex s (.slice A l.length e) (.slice B m.length d) w1)
    clear hb1
    obtain ⟨f0, f1, f2, f3, f4, f5, f6, f7⟩ := HB1.out.cells
    by_cases h2 : k = 2
    · have t2 : (k == 2) = true := by simpa using h2
      cases wb with
      | true =>
        cases neg with
        | false =>
          have HF := Lib.hid (Sh.shape_ok (v := (.mk k b ⟨false, dg, ex⟩ s l m)) HQ.out (by decide) (by simp only [Sh.okOf, decide_eq_true h2, HWB.out]; rfl))
          clear h2
          go_wp2_with fail
          go_ret
          exact ⟨by rw [HF.out]; rfl, HB1.out.below⟩
        | true =>
          have HF := Lib.hid (Sh.shape_no (v := (.mk k b ⟨true, dg, ex⟩ s l m)) HQ.out (by decide) (by simp only [Sh.okOf, Bool.not_true, Bool.and_false]))
          clear h2
          go_wp2_with fail
          go_ret
          exact ⟨by rw [HF.out]; rfl, HB1.out.below⟩
      | false =>
        have HF := Lib.hid (Sh.shape_no (v := (.mk k b ⟨neg, dg, ex⟩ s l m)) HQ.out (by decide) (by simp only [Sh.okOf, HWB.out, Bool.and_false, Bool.false_and]))
        clear h2
        go_wp2_with fail
        go_ret
        exact ⟨by rw [HF.out]; rfl, HB1.out.below⟩
    · have t2 : (k == 2) = false := by simpa using h2
      have HF := Lib.hid (Sh.shape_no (v := (.mk k b ⟨neg, dg, ex⟩ s l m)) HQ.out (by decide) (by simp only [Sh.okOf, decide_eq_false h2, Bool.false_and]))
      clear h2
      go_wp2_with fail
      go_ret
      exact ⟨by rw [HF.out]; rfl, HB1.out.below⟩

set_option linter.unusedVariables false in
set_option linter.unusedSimpArgs false in
set_option maxRecDepth 100000 in
set_option maxHeartbeats 2000000 in
theorem shape_texts (nm : List UInt8) (hn : nm = [114, 101, 113, 117, 105, 114, 101, 100]) (k : Int) (b neg : Bool) (dg : List UInt8) (ex : Int) (s : List UInt8) (l : List Vl) (m : List Js.Mem) (A : Option Addr) (e : Nat) (B : Option Addr) (d : Nat) (w : World) (hx : (Vl.mk k b ⟨neg, dg, ex⟩ s l m).In w.cell? (.agg #[.int .i64 k, .bool b, .bool neg, .string ⟨dg.toArray⟩, .int .i64 ex, .string ⟨s.toArray⟩, .slice A l.length e, .slice B m.length d])) (q1 : l.length ≤ e) (q2 : e ≤ maxLen) (q3 : m.length ≤ d) (q4 : d ≤ maxLen) (q5 : SlL w.cell? A l) (q6 : SlM w.cell? B m) (hsz : l.length ≤ 1000000) :
    Calls Tryz.prog 6 #[.string ⟨nm.toArray⟩, .agg #[.int .i64 k, .bool b, .bool neg, .string ⟨dg.toArray⟩, .int .i64 ex, .string ⟨s.toArray⟩, .slice A l.length e, .slice B m.length d]] w fun e w' => e = .returned (.int .i64 (Sh.shape nm (.mk k b ⟨neg, dg, ex⟩ s l m))) ∧ Below w.heap.size w w' := by
  have HQ := Lib.hid (show Sh.kw nm = 7 by rcases hn with rfl <;> decide)
  subst hn
  have HC := Lib.hid (refTexts_any (.mk k b ⟨neg, dg, ex⟩ s l m) _ (w.alloc (.cells #[.int .i64 k, .bool b, .bool neg, .string ⟨dg.toArray⟩, .int .i64 ex, .string ⟨s.toArray⟩, .slice A l.length e, .slice B m.length d] 28)) (In.keep (le_alloc w _) _ _ hx))
  unfold maxLen at q2 q4
  clear hx q5 q6 hsz
  obtain ⟨cb, hcb⟩ : ∃ cb, Sh.texts (.mk k b ⟨neg, dg, ex⟩ s l m) = cb := ⟨_, rfl⟩
  rw [hcb] at HC
  have HCB := Lib.hid hcb
  clear hcb
  go_enter Tryz.func6, Tryz.ntmps6
  go_wp2_with fail
  refine HC.out.mono ?_
  rintro e1 w1 ⟨rfl, hb1⟩
  have HB1 := Lib.hid (Boxed.start.next hb1 : Boxed w k b neg dg ex s (.slice A l.length e) (.slice B m.length d) w1)
  clear hb1
  cases cb with
  | true =>
    have HF := Lib.hid (Sh.shape_ok (v := (.mk k b ⟨neg, dg, ex⟩ s l m)) HQ.out (by decide) (HCB.out))
    go_wp2_with fail
    go_ret
    exact ⟨by rw [HF.out]; rfl, HB1.out.below⟩
  | false =>
    have HF := Lib.hid (Sh.shape_no (v := (.mk k b ⟨neg, dg, ex⟩ s l m)) HQ.out (by decide) (HCB.out))
    go_wp2_with fail
    go_ret
    exact ⟨by rw [HF.out]; rfl, HB1.out.below⟩

set_option linter.unusedVariables false in
set_option linter.unusedSimpArgs false in
set_option maxRecDepth 100000 in
set_option maxHeartbeats 2000000 in
theorem shape_schema (nm : List UInt8) (hn : nm = [105, 116, 101, 109, 115] ∨ nm = [97, 100, 100, 105, 116, 105, 111, 110, 97, 108, 80, 114, 111, 112, 101, 114, 116, 105, 101, 115] ∨ nm = [110, 111, 116]) (k : Int) (b neg : Bool) (dg : List UInt8) (ex : Int) (s : List UInt8) (l : List Vl) (m : List Js.Mem) (A : Option Addr) (e : Nat) (B : Option Addr) (d : Nat) (w : World) (hx : (Vl.mk k b ⟨neg, dg, ex⟩ s l m).In w.cell? (.agg #[.int .i64 k, .bool b, .bool neg, .string ⟨dg.toArray⟩, .int .i64 ex, .string ⟨s.toArray⟩, .slice A l.length e, .slice B m.length d])) (q1 : l.length ≤ e) (q2 : e ≤ maxLen) (q3 : m.length ≤ d) (q4 : d ≤ maxLen) (q5 : SlL w.cell? A l) (q6 : SlM w.cell? B m) (hsz : l.length ≤ 1000000) :
    Calls Tryz.prog 6 #[.string ⟨nm.toArray⟩, .agg #[.int .i64 k, .bool b, .bool neg, .string ⟨dg.toArray⟩, .int .i64 ex, .string ⟨s.toArray⟩, .slice A l.length e, .slice B m.length d]] w fun e w' => e = .returned (.int .i64 (Sh.shape nm (.mk k b ⟨neg, dg, ex⟩ s l m))) ∧ Below w.heap.size w w' := by
  have HQ := Lib.hid (show Sh.kw nm = 8 by rcases hn with rfl | rfl | rfl <;> decide)
  rcases hn with rfl | rfl | rfl
  all_goals
    have HC := Lib.hid (refSchema_any (.mk k b ⟨neg, dg, ex⟩ s l m) _ (w.alloc (.cells #[.int .i64 k, .bool b, .bool neg, .string ⟨dg.toArray⟩, .int .i64 ex, .string ⟨s.toArray⟩, .slice A l.length e, .slice B m.length d] 28)) (In.keep (le_alloc w _) _ _ hx))
    unfold maxLen at q2 q4
    clear hx q5 q6 hsz
    obtain ⟨cb, hcb⟩ : ∃ cb, Sh.isSch (.mk k b ⟨neg, dg, ex⟩ s l m) = cb := ⟨_, rfl⟩
    rw [hcb] at HC
    have HCB := Lib.hid hcb
    clear hcb
    go_enter Tryz.func6, Tryz.ntmps6
    go_wp2_with fail
    refine HC.out.mono ?_
    rintro e1 w1 ⟨rfl, hb1⟩
    have HB1 := Lib.hid (Boxed.start.next hb1 : Boxed w k b neg dg ex s (.slice A l.length e) (.slice B m.length d) w1)
    clear hb1
    cases cb with
    | true =>
      have HF := Lib.hid (Sh.shape_ok (v := (.mk k b ⟨neg, dg, ex⟩ s l m)) HQ.out (by decide) (HCB.out))
      go_wp2_with fail
      go_ret
      exact ⟨by rw [HF.out]; rfl, HB1.out.below⟩
    | false =>
      have HF := Lib.hid (Sh.shape_no (v := (.mk k b ⟨neg, dg, ex⟩ s l m)) HQ.out (by decide) (HCB.out))
      go_wp2_with fail
      go_ret
      exact ⟨by rw [HF.out]; rfl, HB1.out.below⟩

set_option linter.unusedVariables false in
set_option linter.unusedSimpArgs false in
set_option maxRecDepth 100000 in
set_option maxHeartbeats 2000000 in
theorem shape_members (nm : List UInt8) (hn : nm = [112, 114, 111, 112, 101, 114, 116, 105, 101, 115] ∨ nm = [36, 100, 101, 102, 115]) (k : Int) (b neg : Bool) (dg : List UInt8) (ex : Int) (s : List UInt8) (l : List Vl) (m : List Js.Mem) (A : Option Addr) (e : Nat) (B : Option Addr) (d : Nat) (w : World) (hx : (Vl.mk k b ⟨neg, dg, ex⟩ s l m).In w.cell? (.agg #[.int .i64 k, .bool b, .bool neg, .string ⟨dg.toArray⟩, .int .i64 ex, .string ⟨s.toArray⟩, .slice A l.length e, .slice B m.length d])) (q1 : l.length ≤ e) (q2 : e ≤ maxLen) (q3 : m.length ≤ d) (q4 : d ≤ maxLen) (q5 : SlL w.cell? A l) (q6 : SlM w.cell? B m) (hsz : l.length ≤ 1000000) :
    Calls Tryz.prog 6 #[.string ⟨nm.toArray⟩, .agg #[.int .i64 k, .bool b, .bool neg, .string ⟨dg.toArray⟩, .int .i64 ex, .string ⟨s.toArray⟩, .slice A l.length e, .slice B m.length d]] w fun e w' => e = .returned (.int .i64 (Sh.shape nm (.mk k b ⟨neg, dg, ex⟩ s l m))) ∧ Below w.heap.size w w' := by
  have HQ := Lib.hid (show Sh.kw nm = 9 by rcases hn with rfl | rfl <;> decide)
  rcases hn with rfl | rfl
  all_goals
    have HC := Lib.hid (refAll_any m B d (w.alloc (.cells #[.int .i64 k, .bool b, .bool neg, .string ⟨dg.toArray⟩, .int .i64 ex, .string ⟨s.toArray⟩, .slice A l.length e, .slice B m.length d] 28)) (q6.keep (le_alloc w _)) q3 q4)
    unfold maxLen at q2 q4
    clear hx q5 q6 hsz
    obtain ⟨cb, hcb⟩ : ∃ cb, Sh.allM m = cb := ⟨_, rfl⟩
    rw [hcb] at HC
    have HCB := Lib.hid hcb
    clear hcb
    go_enter Tryz.func6, Tryz.ntmps6
    go_wp2_with fail
    refine HC.out.mono ?_
    rintro e1 w1 ⟨rfl, hb1⟩
    have HB1 := Lib.hid (Boxed.start.next hb1 : Boxed w k b neg dg ex s (.slice A l.length e) (.slice B m.length d) w1)
    clear hb1
    obtain ⟨f0, f1, f2, f3, f4, f5, f6, f7⟩ := HB1.out.cells
    by_cases h5 : k = 5
    · have t5 : (k == 5) = true := by simpa using h5
      cases cb with
      | true =>
        have HF := Lib.hid (Sh.shape_ok (v := (.mk k b ⟨neg, dg, ex⟩ s l m)) HQ.out (by decide) (by simp only [Sh.okOf, decide_eq_true h5, HCB.out]; rfl))
        clear h5
        go_wp2_with fail
        go_ret
        exact ⟨by rw [HF.out]; rfl, HB1.out.below⟩
      | false =>
        have HF := Lib.hid (Sh.shape_no (v := (.mk k b ⟨neg, dg, ex⟩ s l m)) HQ.out (by decide) (by simp only [Sh.okOf, HCB.out, Bool.and_false]))
        clear h5
        go_wp2_with fail
        go_ret
        exact ⟨by rw [HF.out]; rfl, HB1.out.below⟩
    · have t5 : (k == 5) = false := by simpa using h5
      have HF := Lib.hid (Sh.shape_no (v := (.mk k b ⟨neg, dg, ex⟩ s l m)) HQ.out (by decide) (by simp only [Sh.okOf, decide_eq_false h5, Bool.false_and]))
      clear h5
      go_wp2_with fail
      go_ret
      exact ⟨by rw [HF.out]; rfl, HB1.out.below⟩

set_option linter.unusedVariables false in
set_option linter.unusedSimpArgs false in
set_option maxRecDepth 100000 in
set_option maxHeartbeats 2000000 in
theorem shape_list (nm : List UInt8) (hn : nm = [97, 108, 108, 79, 102] ∨ nm = [97, 110, 121, 79, 102] ∨ nm = [111, 110, 101, 79, 102]) (k : Int) (b neg : Bool) (dg : List UInt8) (ex : Int) (s : List UInt8) (l : List Vl) (m : List Js.Mem) (A : Option Addr) (e : Nat) (B : Option Addr) (d : Nat) (w : World) (hx : (Vl.mk k b ⟨neg, dg, ex⟩ s l m).In w.cell? (.agg #[.int .i64 k, .bool b, .bool neg, .string ⟨dg.toArray⟩, .int .i64 ex, .string ⟨s.toArray⟩, .slice A l.length e, .slice B m.length d])) (q1 : l.length ≤ e) (q2 : e ≤ maxLen) (q3 : m.length ≤ d) (q4 : d ≤ maxLen) (q5 : SlL w.cell? A l) (q6 : SlM w.cell? B m) (hsz : l.length ≤ 1000000) :
    Calls Tryz.prog 6 #[.string ⟨nm.toArray⟩, .agg #[.int .i64 k, .bool b, .bool neg, .string ⟨dg.toArray⟩, .int .i64 ex, .string ⟨s.toArray⟩, .slice A l.length e, .slice B m.length d]] w fun e w' => e = .returned (.int .i64 (Sh.shape nm (.mk k b ⟨neg, dg, ex⟩ s l m))) ∧ Below w.heap.size w w' := by
  have HKI := Lib.hid (refKids_list (fun q9 => q9 < (w.alloc (.cells #[.int .i64 k, .bool b, .bool neg, .string ⟨dg.toArray⟩, .int .i64 ex, .string ⟨s.toArray⟩, .slice A l.length e, .slice B m.length d] 28)).heap.size) nm hn k b ⟨neg, dg, ex⟩ s l m A e B d (w.alloc (.cells #[.int .i64 k, .bool b, .bool neg, .string ⟨dg.toArray⟩, .int .i64 ex, .string ⟨s.toArray⟩, .slice A l.length e, .slice B m.length d] 28)) (fun _ h => h) q1 q2 ((q5.keep (le_alloc w _)).keep (fun _ _ hp => on_some.2 ⟨World.block_lt_of_cell? _ _ hp, hp⟩)) hsz)
  have HAL := Lib.hid (fun (A2 : Option Addr) (c2 : Nat) (W : World) (h : SlM W.cell? A2 (Sh.numbered l)) (h1 : (Sh.numbered l).length ≤ c2) (h2 : c2 ≤ maxLen) => refAll_any (Sh.numbered l) A2 c2 W h h1 h2)
  rw [Sh.allM_numbered] at HAL
  unfold maxLen at q2 q4
  clear hx q5 q6 hsz
  obtain ⟨cb, hcb⟩ : ∃ cb, Sh.allL l = cb := ⟨_, rfl⟩
  rw [hcb] at HAL
  have HCB := Lib.hid hcb
  clear hcb
  have HQ := Lib.hid (show Sh.kw nm = 10 by rcases hn with rfl | rfl | rfl <;> decide)
  rcases hn with rfl | rfl | rfl
  all_goals
    go_enter Tryz.func6, Tryz.ntmps6
    go_wp2_with fail
    refine HKI.out.mono ?_
    rintro e1 w1 ⟨A2, c2, rfl, hs2, hc2, hm2, hb1⟩
    have HB0 := Lib.hid (Boxed.start.next hb1 : Boxed w k b neg dg ex s (.slice A l.length e) (.slice B m.length d) w1)
    have HA2 := Lib.hid (HAL.out A2 c2 w1 (hs2.keep (on_all _ _)) hc2 hm2)
    clear hb1 hs2 hc2 hm2 HAL HKI
    go_wp2_with fail
    refine HA2.out.mono ?_
    rintro e2 w2 ⟨rfl, hb2⟩
    have HB1 := Lib.hid (HB0.out.next hb2)
    clear hb2 HA2 HB0
    obtain ⟨f0, f1, f2, f3, f4, f5, f6, f7⟩ := HB1.out.cells
    by_cases h4 : k = 4
    · have t4 : (k == 4) = true := by simpa using h4
      by_cases hl : 0 < l.length
      · have tl : decide ((0 : Int) < (l.length : Int)) = true := decide_eq_true (by omega)
        have tn : decide (0 < l.length) = true := decide_eq_true hl
        cases cb with
        | true =>
          have HF := Lib.hid (Sh.shape_ok (v := (.mk k b ⟨neg, dg, ex⟩ s l m)) HQ.out (by decide) (by simp only [Sh.okOf, decide_eq_true h4, decide_eq_true hl, HCB.out]; rfl))
          clear h4 hl
          go_wp2_with fail
          go_ret
          exact ⟨by rw [HF.out]; rfl, HB1.out.below⟩
        | false =>
          have HF := Lib.hid (Sh.shape_no (v := (.mk k b ⟨neg, dg, ex⟩ s l m)) HQ.out (by decide) (by simp only [Sh.okOf, HCB.out, Bool.and_false]))
          clear h4 hl
          go_wp2_with fail
          go_ret
          exact ⟨by rw [HF.out]; rfl, HB1.out.below⟩
      · have tl : decide ((0 : Int) < (l.length : Int)) = false := decide_eq_false (by omega)
        have tn : decide (0 < l.length) = false := decide_eq_false hl
        have HF := Lib.hid (Sh.shape_no (v := (.mk k b ⟨neg, dg, ex⟩ s l m)) HQ.out (by decide) (by simp only [Sh.okOf, decide_eq_false hl, Bool.and_false, Bool.false_and]))
        clear h4 hl
        go_wp2_with fail
        go_ret
        exact ⟨by rw [HF.out]; rfl, HB1.out.below⟩
    · have t4 : (k == 4) = false := by simpa using h4
      have HF := Lib.hid (Sh.shape_no (v := (.mk k b ⟨neg, dg, ex⟩ s l m)) HQ.out (by decide) (by simp only [Sh.okOf, decide_eq_false h4, Bool.false_and]))
      clear h4
      go_wp2_with fail
      go_ret
      exact ⟨by rw [HF.out]; rfl, HB1.out.below⟩

set_option linter.unusedVariables false in
set_option linter.unusedSimpArgs false in
set_option maxRecDepth 100000 in
set_option maxHeartbeats 2000000 in
theorem shape_type (nm : List UInt8) (hn : nm = [116, 121, 112, 101]) (k : Int) (b neg : Bool) (dg : List UInt8) (ex : Int) (s : List UInt8) (l : List Vl) (m : List Js.Mem) (A : Option Addr) (e : Nat) (B : Option Addr) (d : Nat) (w : World) (hx : (Vl.mk k b ⟨neg, dg, ex⟩ s l m).In w.cell? (.agg #[.int .i64 k, .bool b, .bool neg, .string ⟨dg.toArray⟩, .int .i64 ex, .string ⟨s.toArray⟩, .slice A l.length e, .slice B m.length d])) (q1 : l.length ≤ e) (q2 : e ≤ maxLen) (q3 : m.length ≤ d) (q4 : d ≤ maxLen) (q5 : SlL w.cell? A l) (q6 : SlM w.cell? B m) (hsz : l.length ≤ 1000000) :
    Calls Tryz.prog 6 #[.string ⟨nm.toArray⟩, .agg #[.int .i64 k, .bool b, .bool neg, .string ⟨dg.toArray⟩, .int .i64 ex, .string ⟨s.toArray⟩, .slice A l.length e, .slice B m.length d]] w fun e w' => e = .returned (.int .i64 (Sh.shape nm (.mk k b ⟨neg, dg, ex⟩ s l m))) ∧ Below w.heap.size w w' := by
  have HQ := Lib.hid (show Sh.kw nm = 1 by subst hn; decide)
  subst hn
  have HC := Lib.hid (refTexts_any (.mk k b ⟨neg, dg, ex⟩ s l m) _ (w.alloc (.cells #[.int .i64 k, .bool b, .bool neg, .string ⟨dg.toArray⟩, .int .i64 ex, .string ⟨s.toArray⟩, .slice A l.length e, .slice B m.length d] 28)) (In.keep (le_alloc w _) _ _ hx))
  have HTV := Lib.hid (fun (W : World) (h : Cl.le w.cell? W.cell?) => refTyped_any (.mk k b ⟨neg, dg, ex⟩ s l m) _ W (In.keep h _ _ hx))
  have H5 := Lib.hid q5
  unfold maxLen at q2 q4
  clear hx q5 q6 hsz
  obtain ⟨nb, hnb⟩ : ∃ nb, Sh.isName (.mk k b ⟨neg, dg, ex⟩ s l m) = nb := ⟨_, rfl⟩
  rw [hnb] at HTV
  have HNB := Lib.hid hnb
  clear hnb
  have hts : Sh.texts (.mk k b ⟨neg, dg, ex⟩ s l m) = (Sh.textsL l && decide (k = 4)) := rfl
  obtain ⟨tb, htb⟩ : ∃ tb, Sh.texts (.mk k b ⟨neg, dg, ex⟩ s l m) = tb := ⟨_, rfl⟩
  rw [htb] at HC
  have HTB := Lib.hid (hts.symm.trans htb)
  clear hts htb
  go_enter Tryz.func6, Tryz.ntmps6
  go_wp2_with fail
  refine HC.out.mono ?_
  rintro e1 w1 ⟨rfl, hb1⟩
  have HB1 := Lib.hid (Boxed.start.next hb1 : Boxed w k b neg dg ex s (.slice A l.length e) (.slice B m.length d) w1)
  clear hb1
  obtain ⟨c0, hc0⟩ : ∃ c0, (tb && decide (0 < l.length)) = c0 := ⟨_, rfl⟩
  have HC0 := Lib.hid (show (Sh.textsL l && decide (k = 4) && decide (0 < l.length)) = c0 by rw [HTB.out]; exact hc0)
  have HZ := Lib.hid (show (c0 && Sh.namesL (l.take 0)) = c0 by rw [List.take_zero]; exact Bool.and_true _)
  have HCC := Lib.hid hc0
  clear hc0
  obtain ⟨f0, f1, f2, f3, f4, f5, f6, f7⟩ := HB1.out.cells
  go_upto_region 6 with (fail)
  go_cut [5] from 5 to 5 (fun v5 wc => v5 = .bool c0 ∧ wc = w1)
  case first =>
    cases tb with
    | false =>
      have HV := Lib.hid (show c0 = false from HCC.out.symm)
      go_wp2_with fail
      go_meet
      case rel => exact ⟨by rw [HV.out], rfl⟩
    | true =>
      by_cases hl : 0 < l.length
      · have tl : decide ((0 : Int) < (l.length : Int)) = true := decide_eq_true (by omega)
        have tn : decide (0 < l.length) = true := decide_eq_true hl
        have HV := Lib.hid (show c0 = true by rw [← HCC.out, decide_eq_true hl]; rfl)
        clear hl
        go_wp2_with fail
        go_meet
        case rel => exact ⟨by rw [HV.out], rfl⟩
      · have tl : decide ((0 : Int) < (l.length : Int)) = false := decide_eq_false (by omega)
        have tn : decide (0 < l.length) = false := decide_eq_false hl
        have HV := Lib.hid (show c0 = false by rw [← HCC.out, decide_eq_false hl]; rfl)
        clear hl
        go_wp2_with fail
        go_meet
        case rel => exact ⟨by rw [HV.out], rfl⟩
  case rest =>
  obtain ⟨rfl, rfl⟩ := hcut
  go_wp2_with fail
  have HXX := Lib.hid HB1.out
  clear HB1
  go_loopw [5, 7] (fun o5 i7 wr => ∃ j : Nat, j ≤ l.length ∧ o5 = .bool (c0 && Sh.namesL (l.take j)) ∧ i7 = .int .i64 j ∧ Boxed w k b neg dg ex s (.slice A l.length e) (.slice B m.length d) wr) (fun _ i _ => l.length - (intOf i).toNat)
  case atStart => exact ⟨0, by omega, by rw [HZ.out], rfl, HXX.out⟩
  case round =>
    obtain ⟨j, hj, rfl, rfl, hW⟩ := hrel
    have HW := Lib.hid hW
    obtain ⟨f0, f1, f2, f3, f4, f5, f6, f7⟩ := hW.cells
    clear hW HXX
    by_cases hlt : j < l.length
    · obtain ⟨g, o, y, rfl, hy, hc⟩ := H5.out j _ (List.getElem?_eq_getElem hlt)
      obtain ⟨k1, b1, n1, g1, x1, s1, A1, l1, p1, B1, m1, d1, rfl⟩ := In.cells hy
      have HTY := Lib.hid (refTyped_any (l[j]) _ wr (In.keep HW.out.le _ _ hy))
      obtain ⟨e0, e1, e2, e3, e4, e5, e6, e7⟩ := (hc.keep HW.out.le).eight
      have hgl := World.block_lt_of_cell? _ _ e0
      have hjj : (j : Int) < (l.length : Int) := by omega
      have HNX := Lib.hid (Sh.namesL_next hlt)
      clear hy hc
      obtain ⟨ib, hib⟩ : ∃ ib, Sh.isName (l[j]) = ib := ⟨_, rfl⟩
      rw [hib] at HTY HNX
      clear hib
      obtain ⟨ob, hob⟩ : ∃ ob, (c0 && Sh.namesL (l.take j)) = ob := ⟨_, rfl⟩
      have HOB := Lib.hid hob
      rw [hob]
      clear hob
      go_wp2_with fail
      refine HTY.out.mono ?_
      rintro e2 w2 ⟨rfl, hb2⟩
      have HW2 := Lib.hid (HW.out.next hb2)
      have HO2 := Lib.hid (show (c0 && Sh.namesL (l.take (j + 1))) = (ob && ib) by rw [HNX.out, ← Bool.and_assoc, HOB.out])
      clear hb2 HTY HNX HOB
      cases ob <;> cases ib
      all_goals
        go_wp2_with fail
        go_roundw
        case rel => exact ⟨j + 1, by omega, by first | (rw [HO2.out]; done) | (rw [HO2.out]; rfl), by go_num, HW2.out⟩
        case measure => simp [intOf]; omega
    · obtain rfl : j = l.length := by omega
      have HTY := Lib.hid (HTV.out wr HW.out.le)
      obtain ⟨ob, hob⟩ : ∃ ob, (c0 && Sh.namesL (l.take l.length)) = ob := ⟨_, rfl⟩
      have HOB := Lib.hid (show (c0 && Sh.namesL l) = ob by rw [List.take_length] at hob; exact hob)
      rw [hob]
      clear hob
      go_wp2_with fail
      refine HTY.out.mono ?_
      rintro e2 w2 ⟨rfl, hb2⟩
      have HB2 := Lib.hid (HW.out.next hb2).below
      clear hb2 HTY
      have HIS := Lib.hid (show Sh.okOf 1 (.mk k b ⟨neg, dg, ex⟩ s l m) = (ob || nb) by rw [← HOB.out, ← HNB.out, ← HC0.out]; rfl)
      cases ob <;> cases nb
      · have HF := Lib.hid (Sh.shape_no (v := (.mk k b ⟨neg, dg, ex⟩ s l m)) HQ.out (by decide) HIS.out)
        go_wp2_with fail
        go_ret
        exact ⟨by rw [HF.out]; rfl, HB2.out⟩
      · have HF := Lib.hid (Sh.shape_ok (v := (.mk k b ⟨neg, dg, ex⟩ s l m)) HQ.out (by decide) HIS.out)
        go_wp2_with fail
        go_ret
        exact ⟨by rw [HF.out]; rfl, HB2.out⟩
      · have HF := Lib.hid (Sh.shape_ok (v := (.mk k b ⟨neg, dg, ex⟩ s l m)) HQ.out (by decide) HIS.out)
        go_wp2_with fail
        go_ret
        exact ⟨by rw [HF.out]; rfl, HB2.out⟩
      · have HF := Lib.hid (Sh.shape_ok (v := (.mk k b ⟨neg, dg, ex⟩ s l m)) HQ.out (by decide) HIS.out)
        go_wp2_with fail
        go_ret
        exact ⟨by rw [HF.out]; rfl, HB2.out⟩

set_option linter.unusedVariables false in
set_option linter.unusedSimpArgs false in
set_option maxRecDepth 100000 in
set_option maxHeartbeats 2000000 in
theorem shape_none (nm : List UInt8) (hn : ∀ p ∈ Sh.kws, ¬ p.1 = nm) (k : Int) (b neg : Bool) (dg : List UInt8) (ex : Int) (s : List UInt8) (l : List Vl) (m : List Js.Mem) (A : Option Addr) (e : Nat) (B : Option Addr) (d : Nat) (w : World) (hx : (Vl.mk k b ⟨neg, dg, ex⟩ s l m).In w.cell? (.agg #[.int .i64 k, .bool b, .bool neg, .string ⟨dg.toArray⟩, .int .i64 ex, .string ⟨s.toArray⟩, .slice A l.length e, .slice B m.length d])) (q1 : l.length ≤ e) (q2 : e ≤ maxLen) (q3 : m.length ≤ d) (q4 : d ≤ maxLen) (q5 : SlL w.cell? A l) (q6 : SlM w.cell? B m) (hsz : l.length ≤ 1000000) :
    Calls Tryz.prog 6 #[.string ⟨nm.toArray⟩, .agg #[.int .i64 k, .bool b, .bool neg, .string ⟨dg.toArray⟩, .int .i64 ex, .string ⟨s.toArray⟩, .slice A l.length e, .slice B m.length d]] w fun e w' => e = .returned (.int .i64 (Sh.shape nm (.mk k b ⟨neg, dg, ex⟩ s l m))) ∧ Below w.heap.size w w' := by
  have HF := Lib.hid (show Sh.shape nm (.mk k b ⟨neg, dg, ex⟩ s l m) = 10 from if_pos (Sh.kw_none hn))
  have e0 : (nm == [116, 121, 112, 101]) = false := by rw [beq_eq_false_iff_ne]; exact fun e => hn ([116, 121, 112, 101], 1) (by decide) e.symm
  have e1 : (nm == [101, 110, 117, 109]) = false := by rw [beq_eq_false_iff_ne]; exact fun e => hn ([101, 110, 117, 109], 2) (by decide) e.symm
  have e2 : (nm == [99, 111, 110, 115, 116]) = false := by rw [beq_eq_false_iff_ne]; exact fun e => hn ([99, 111, 110, 115, 116], 3) (by decide) e.symm
  have e3 : (nm == [109, 105, 110, 105, 109, 117, 109]) = false := by rw [beq_eq_false_iff_ne]; exact fun e => hn ([109, 105, 110, 105, 109, 117, 109], 4) (by decide) e.symm
  have e4 : (nm == [109, 97, 120, 105, 109, 117, 109]) = false := by rw [beq_eq_false_iff_ne]; exact fun e => hn ([109, 97, 120, 105, 109, 117, 109], 4) (by decide) e.symm
  have e5 : (nm == [109, 105, 110, 76, 101, 110, 103, 116, 104]) = false := by rw [beq_eq_false_iff_ne]; exact fun e => hn ([109, 105, 110, 76, 101, 110, 103, 116, 104], 5) (by decide) e.symm
  have e6 : (nm == [109, 97, 120, 76, 101, 110, 103, 116, 104]) = false := by rw [beq_eq_false_iff_ne]; exact fun e => hn ([109, 97, 120, 76, 101, 110, 103, 116, 104], 5) (by decide) e.symm
  have e7 : (nm == [109, 105, 110, 73, 116, 101, 109, 115]) = false := by rw [beq_eq_false_iff_ne]; exact fun e => hn ([109, 105, 110, 73, 116, 101, 109, 115], 5) (by decide) e.symm
  have e8 : (nm == [109, 97, 120, 73, 116, 101, 109, 115]) = false := by rw [beq_eq_false_iff_ne]; exact fun e => hn ([109, 97, 120, 73, 116, 101, 109, 115], 5) (by decide) e.symm
  have e9 : (nm == [117, 110, 105, 113, 117, 101, 73, 116, 101, 109, 115]) = false := by rw [beq_eq_false_iff_ne]; exact fun e => hn ([117, 110, 105, 113, 117, 101, 73, 116, 101, 109, 115], 6) (by decide) e.symm
  have e10 : (nm == [114, 101, 113, 117, 105, 114, 101, 100]) = false := by rw [beq_eq_false_iff_ne]; exact fun e => hn ([114, 101, 113, 117, 105, 114, 101, 100], 7) (by decide) e.symm
  have e11 : (nm == [105, 116, 101, 109, 115]) = false := by rw [beq_eq_false_iff_ne]; exact fun e => hn ([105, 116, 101, 109, 115], 8) (by decide) e.symm
  have e12 : (nm == [97, 100, 100, 105, 116, 105, 111, 110, 97, 108, 80, 114, 111, 112, 101, 114, 116, 105, 101, 115]) = false := by rw [beq_eq_false_iff_ne]; exact fun e => hn ([97, 100, 100, 105, 116, 105, 111, 110, 97, 108, 80, 114, 111, 112, 101, 114, 116, 105, 101, 115], 8) (by decide) e.symm
  have e13 : (nm == [110, 111, 116]) = false := by rw [beq_eq_false_iff_ne]; exact fun e => hn ([110, 111, 116], 8) (by decide) e.symm
  have e14 : (nm == [112, 114, 111, 112, 101, 114, 116, 105, 101, 115]) = false := by rw [beq_eq_false_iff_ne]; exact fun e => hn ([112, 114, 111, 112, 101, 114, 116, 105, 101, 115], 9) (by decide) e.symm
  have e15 : (nm == [36, 100, 101, 102, 115]) = false := by rw [beq_eq_false_iff_ne]; exact fun e => hn ([36, 100, 101, 102, 115], 9) (by decide) e.symm
  have e16 : (nm == [97, 108, 108, 79, 102]) = false := by rw [beq_eq_false_iff_ne]; exact fun e => hn ([97, 108, 108, 79, 102], 10) (by decide) e.symm
  have e17 : (nm == [97, 110, 121, 79, 102]) = false := by rw [beq_eq_false_iff_ne]; exact fun e => hn ([97, 110, 121, 79, 102], 10) (by decide) e.symm
  have e18 : (nm == [111, 110, 101, 79, 102]) = false := by rw [beq_eq_false_iff_ne]; exact fun e => hn ([111, 110, 101, 79, 102], 10) (by decide) e.symm
  have e19 : (nm == [36, 114, 101, 102]) = false := by rw [beq_eq_false_iff_ne]; exact fun e => hn ([36, 114, 101, 102], 11) (by decide) e.symm
  unfold maxLen at q2 q4
  clear hx q5 q6 hsz hn
  go_enter Tryz.func6, Tryz.ntmps6
  go_wp2_with fail
  go_ret
  exact ⟨by rw [HF.out]; rfl, Boxed.start.below⟩

theorem refShape_any (nm : List UInt8) (v : Vl) (x : Value) (w : World) (hx : v.In w.cell? x) (hsz : v.size ≤ 1000000) :
    Calls Tryz.prog 6 #[.string ⟨nm.toArray⟩, x] w fun e w' => e = .returned (.int .i64 (Sh.shape nm v)) ∧ Below w.heap.size w w' := by
  obtain ⟨k, b, ⟨neg, dg, ex⟩, s, l, m⟩ := v
  obtain ⟨A, e, B, d, rfl, q1, q2, q3, q4, q5, q6⟩ := In.form hx
  have hl : l.length ≤ 1000000 := by
    have h : l.length ≤ sizeL l := sizeL_len l
    simp only [Vl.size] at hsz; omega
  by_cases hn : ∀ p ∈ Sh.kws, ¬ p.1 = nm
  · exact shape_none nm hn k b neg dg ex s l m A e B d w hx q1 q2 q3 q4 q5 q6 hl
  · have hm : ∃ p ∈ Sh.kws, p.1 = nm := by
      apply Classical.byContradiction
      intro h
      exact hn (fun p hp e => h ⟨p, hp, e⟩)
    obtain ⟨p, hp, rfl⟩ := hm
    simp only [Sh.kws, List.mem_cons, List.not_mem_nil, or_false] at hp
    rcases hp with rfl | rfl | rfl | rfl | rfl | rfl | rfl | rfl | rfl | rfl | rfl | rfl | rfl | rfl | rfl | rfl | rfl | rfl | rfl | rfl
    · exact shape_type _ (rfl) k b neg dg ex s l m A e B d w hx q1 q2 q3 q4 q5 q6 hl
    · exact shape_enum _ (rfl) k b neg dg ex s l m A e B d w hx q1 q2 q3 q4 q5 q6 hl
    · exact shape_const _ (rfl) k b neg dg ex s l m A e B d w hx q1 q2 q3 q4 q5 q6 hl
    · exact shape_number _ (.inl rfl) k b neg dg ex s l m A e B d w hx q1 q2 q3 q4 q5 q6 hl
    · exact shape_number _ (.inr (rfl)) k b neg dg ex s l m A e B d w hx q1 q2 q3 q4 q5 q6 hl
    · exact shape_count _ (.inl rfl) k b neg dg ex s l m A e B d w hx q1 q2 q3 q4 q5 q6 hl
    · exact shape_count _ (.inr (.inl rfl)) k b neg dg ex s l m A e B d w hx q1 q2 q3 q4 q5 q6 hl
    · exact shape_count _ (.inr (.inr (.inl rfl))) k b neg dg ex s l m A e B d w hx q1 q2 q3 q4 q5 q6 hl
    · exact shape_count _ (.inr (.inr (.inr (rfl)))) k b neg dg ex s l m A e B d w hx q1 q2 q3 q4 q5 q6 hl
    · exact shape_bool _ (rfl) k b neg dg ex s l m A e B d w hx q1 q2 q3 q4 q5 q6 hl
    · exact shape_texts _ (rfl) k b neg dg ex s l m A e B d w hx q1 q2 q3 q4 q5 q6 hl
    · exact shape_schema _ (.inl rfl) k b neg dg ex s l m A e B d w hx q1 q2 q3 q4 q5 q6 hl
    · exact shape_schema _ (.inr (.inl rfl)) k b neg dg ex s l m A e B d w hx q1 q2 q3 q4 q5 q6 hl
    · exact shape_schema _ (.inr (.inr (rfl))) k b neg dg ex s l m A e B d w hx q1 q2 q3 q4 q5 q6 hl
    · exact shape_members _ (.inl rfl) k b neg dg ex s l m A e B d w hx q1 q2 q3 q4 q5 q6 hl
    · exact shape_members _ (.inr (rfl)) k b neg dg ex s l m A e B d w hx q1 q2 q3 q4 q5 q6 hl
    · exact shape_list _ (.inl rfl) k b neg dg ex s l m A e B d w hx q1 q2 q3 q4 q5 q6 hl
    · exact shape_list _ (.inr (.inl rfl)) k b neg dg ex s l m A e B d w hx q1 q2 q3 q4 q5 q6 hl
    · exact shape_list _ (.inr (.inr (rfl))) k b neg dg ex s l m A e B d w hx q1 q2 q3 q4 q5 q6 hl
    · exact shape_ref _ (rfl) k b neg dg ex s l m A e B d w hx q1 q2 q3 q4 q5 q6 hl

end Go.Proofs.YtfolfibembplbaaGreatDoor

