/- The walks of layer 10 (shape): the program's Check. (By gen_ch.py.) -/
import Derived.Test.YtfolfibembplbaaDoorCi
namespace Go.Proofs.YtfolfibembplbaaDoor
open Go.RowKit Js

/-- The elements of a value that the laws hand in are not many, and not long. -/
theorem Sh.fine_len {k : Int} {b : Bool} {n : Nm.Num} {s : List UInt8} {l : List Vl} {m : List Js.Mem} (h : Fine (.mk k b n s l m)) : l.length ≤ 1000000 ∧ ∀ v ∈ l, (Sh.strOf v).length ≤ 1000000 := by
  refine ⟨?_, fun v hv => ?_⟩
  · have h1 := h.2.1
    have h2 : l.length ≤ sizeL l := sizeL_len l
    simp only [Vl.size] at h1
    omega
  · have h1 := h.2.2.2.2
    simp only [Vl.slim] at h1
    have h2 := (slimL_iff 80000 l).1 h1.2.2.1 v hv
    obtain ⟨k', b', n', s', l', m'⟩ := v
    simp only [Vl.slim] at h2
    show s'.length ≤ _
    omega
theorem Sh.isType_row {b : Bool} {n : Nm.Num} {s : List UInt8} {l : List Vl} {m : List Js.Mem} : Sh.isType (.mk 4 b n s l m) = (decide (0 < l.length) && Sh.namesL l && Sh.textsL l) := by
  have e : Sh.isName (.mk 4 b n s l m) = false := by unfold Sh.isName; simp [Sh.kindOf]
  simp only [Sh.isType, e, Bool.or_false]
  simp [Bool.and_comm, Bool.and_assoc, Bool.and_left_comm]
theorem Sh.isType_one {k : Int} {b : Bool} {n : Nm.Num} {s : List UInt8} {l : List Vl} {m : List Js.Mem} (h : ¬ k = 4) : Sh.isType (.mk k b n s l m) = Sh.isName (.mk k b n s l m) := by
  simp [Sh.isType, h]

set_option linter.unusedVariables false in
set_option linter.unusedSimpArgs false in
set_option maxRecDepth 100000 in
set_option maxHeartbeats 2000000 in
theorem isTypes_any (v : Vl) (x : Value) (w : World) (hf : Fine v) (hx : v.In w.cell? x) : Calls Tryd.prog 11 #[x] w fun e w' => e = .returned (.bool (Sh.isType v)) ∧ Below w.heap.size w w' := by
  obtain ⟨k, b, n, s, l, m⟩ := v
  have hx0 := hx
  obtain ⟨A, e, B, d, rfl, q1, q2, q3, q4, q5, q6⟩ := In.form hx
  have hb1 := (Below.refl w.heap.size w).alloc (Nat.le_refl _) (.cells #[.int .i64 k, .bool b, .bool n.neg, .string ⟨n.digits.toArray⟩, .int .i64 n.exp, .string ⟨s.toArray⟩, .slice A l.length e, .slice B m.length d] 28)
  have HB := Lib.hid hb1
  have HK := Lib.hid (Blk.new w 28 #[.int .i64 k, .bool b, .bool n.neg, .string ⟨n.digits.toArray⟩, .int .i64 n.exp, .string ⟨s.toArray⟩, .slice A l.length e, .slice B m.length d])
  by_cases h4 : k = 4
  · have HS := Lib.hid (show SlL w.cell? A l from q5)
    have HFL := Lib.hid (Sh.fine_len hf)
    subst h4
    have HF := Lib.hid (Sh.isType_row (b := b) (n := n) (s := s) (l := l) (m := m))
    have HM := Lib.hid q2
    have HL := Lib.hid q1
    unfold maxLen at q2 q4
    clear hx hx0 q5 q6 hb1 hf
    by_cases hl : 0 < l.length
    · have tl : decide ((0 : Int) < (l.length : Int)) = true := decide_eq_true (by omega)
      have tn : decide (0 < l.length) = true := decide_eq_true hl
      rw [decide_eq_true hl] at HF
      have HA := Lib.hid (fun (W : World) (h : Below w.heap.size w W) => allType_any l A e W (HS.out.keep (le_below h)) HL.out HM.out)
      have HU := Lib.hid (fun (W : World) (h : Below w.heap.size w W) => unlike_any l A e W (HS.out.keep (le_below h)) HL.out HM.out HFL.out.1 HFL.out.2)
      obtain ⟨sa, hsa⟩ : ∃ sa, Sh.namesL l = sa := ⟨_, rfl⟩
      obtain ⟨su, hsu⟩ : ∃ su, Sh.textsL l = su := ⟨_, rfl⟩
      rw [hsa] at HA HF
      rw [hsu] at HU HF
      clear hsa hsu hl
      go_enter Tryd.func11, Tryd.ntmps11
      go_upto_region 3 with (fail)
      generalize w.alloc (.cells #[.int .i64 4, .bool b, .bool n.neg, .string ⟨n.digits.toArray⟩, .int .i64 n.exp, .string ⟨s.toArray⟩, .slice A l.length e, .slice B m.length d] 28) = w1 at *
      obtain ⟨a0, a1, a2, a3, a4, a5, a6, a7⟩ := HK.out.eight
      have hkl := HK.out.lt
      go_wp2_with fail
      refine (HA.out _ HB.out).mono ?_
      rintro e2 w2 ⟨rfl, hb2⟩
      have HB2 := Lib.hid (HB.out.trans (hb2.mono HB.out.size))
      have HK2 := Lib.hid (HK.out.on hb2)
      clear hb2 a0 a1 a2 a3 a4 a5 a6 a7 hkl
      obtain ⟨a0, a1, a2, a3, a4, a5, a6, a7⟩ := HK2.out.eight
      cases sa with
      | true =>
        go_wp2_with fail
        refine (HU.out _ HB2.out).mono ?_
        rintro e3 w3 ⟨rfl, hb3⟩
        have HB3 := Lib.hid (HB2.out.trans (hb3.mono HB2.out.size))
        clear hb3
        go_wp2_with fail
        go_ret
        exact ⟨by rw [HF.out]; simp, HB3.out⟩
      | false =>
        go_wp2_with fail
        go_ret
        exact ⟨by rw [HF.out]; simp, HB2.out⟩
    · have tl : decide ((0 : Int) < (l.length : Int)) = false := decide_eq_false (by omega)
      have tn : decide (0 < l.length) = false := decide_eq_false hl
      rw [decide_eq_false hl] at HF
      clear hl
      go_enter Tryd.func11, Tryd.ntmps11
      go_wp2_with fail
      go_ret
      exact ⟨by rw [HF.out]; simp, HB.out⟩
  · have t4 : (k == 4) = false := by simpa using h4
    have t4' : (k != 4) = true := by simpa using h4
    have HF := Lib.hid (Sh.isType_one (b := b) (n := n) (s := s) (l := l) (m := m) h4)
    have HC := Lib.hid (isType_any (.mk k b n s l m) _ (w.alloc (.cells #[.int .i64 k, .bool b, .bool n.neg, .string ⟨n.digits.toArray⟩, .int .i64 n.exp, .string ⟨s.toArray⟩, .slice A l.length e, .slice B m.length d] 28)) (In.keep (le_below hb1) _ _ hx0))
    clear hx hx0 q5 q6 hb1 hf h4
    go_enter Tryd.func11, Tryd.ntmps11
    go_upto_region 2 with (fail)
    generalize w.alloc (.cells #[.int .i64 k, .bool b, .bool n.neg, .string ⟨n.digits.toArray⟩, .int .i64 n.exp, .string ⟨s.toArray⟩, .slice A l.length e, .slice B m.length d] 28) = w1 at *
    obtain ⟨a0, a1, a2, a3, a4, a5, a6, a7⟩ := HK.out.eight
    have hkl := HK.out.lt
    go_wp2_with fail
    refine HC.out.mono ?_
    rintro e2 w2 ⟨rfl, hb2⟩
    have HB2 := Lib.hid (HB.out.trans (hb2.mono HB.out.size))
    clear hb2
    go_wp2_with fail
    go_ret
    exact ⟨by rw [HF.out]; rfl, HB2.out⟩

set_option linter.unusedVariables false in
set_option linter.unusedSimpArgs false in
set_option maxRecDepth 100000 in
set_option maxHeartbeats 2000000 in
theorem check_type (nm : List UInt8) (hn : nm = [116, 121, 112, 101]) (k : Int) (b : Bool) (n : Nm.Num) (s : List UInt8) (l : List Vl) (m : List Js.Mem) (A : Option Addr) (e : Nat) (B : Option Addr) (d : Nat) (w : World) (hx : (Vl.mk k b n s l m).In w.cell? (.agg #[.int .i64 k, .bool b, .bool n.neg, .string ⟨n.digits.toArray⟩, .int .i64 n.exp, .string ⟨s.toArray⟩, .slice A l.length e, .slice B m.length d])) (hT : Tab w) (hf : Fine (.mk k b n s l m)) (q1 : l.length ≤ e) (q2 : e ≤ maxLen) (q3 : m.length ≤ d) (q4 : d ≤ maxLen) (q5 : SlL w.cell? A l) (q6 : SlM w.cell? B m) :
    Calls Tryd.prog 6 #[.string ⟨nm.toArray⟩, .agg #[.int .i64 k, .bool b, .bool n.neg, .string ⟨n.digits.toArray⟩, .int .i64 n.exp, .string ⟨s.toArray⟩, .slice A l.length e, .slice B m.length d]] w fun e w' => e = .returned (errV (Sh.shape nm (.mk k b n s l m))) ∧ Below w.heap.size w w' := by
  have HQ := Lib.hid (show Sh.kw nm = 1 by rcases hn with rfl <;> decide)
  have hb1 := (Below.refl w.heap.size w).alloc (Nat.le_refl _) (.cells #[.int .i64 k, .bool b, .bool n.neg, .string ⟨n.digits.toArray⟩, .int .i64 n.exp, .string ⟨s.toArray⟩, .slice A l.length e, .slice B m.length d] 28)
  have HB := Lib.hid hb1
  have HK := Lib.hid (Blk.new w 28 #[.int .i64 k, .bool b, .bool n.neg, .string ⟨n.digits.toArray⟩, .int .i64 n.exp, .string ⟨s.toArray⟩, .slice A l.length e, .slice B m.length d])
  subst hn
  obtain ⟨sb, hsb⟩ : ∃ sb, Sh.okOf 1 (.mk k b n s l m) = sb := ⟨_, rfl⟩
  have HOK := Lib.hid (show sb = true → Sh.shape _ (.mk k b n s l m) = 0 from fun h => Sh.shape_ok HQ.out (by decide) (by rw [hsb, h]))
  have HNO := Lib.hid (show sb = false → Sh.shape _ (.mk k b n s l m) = 11 from fun h => Sh.shape_no HQ.out (by decide) (by rw [hsb, h]))
  have HC := Lib.hid (fun (W : World) (h : Below w.heap.size w W) => isTypes_any (.mk k b n s l m) _ W hf (In.keep (le_below h) _ _ hx))
  rw [show Sh.isType (.mk k b n s l m) = sb from hsb] at HC
  clear hx hT hf q5 q6 hb1 hsb
  unfold maxLen at q2 q4
  go_enter Tryd.func6, Tryd.ntmps6
  go_upto_region 5 with (fail)
  generalize w.alloc (.cells #[.int .i64 k, .bool b, .bool n.neg, .string ⟨n.digits.toArray⟩, .int .i64 n.exp, .string ⟨s.toArray⟩, .slice A l.length e, .slice B m.length d] 28) = w1 at *
  obtain ⟨a0, a1, a2, a3, a4, a5, a6, a7⟩ := HK.out.eight
  have hkl := HK.out.lt
  go_wp2_with fail
  refine (HC.out _ HB.out).mono ?_
  rintro e2 w2 ⟨rfl, hb2⟩
  have HB2 := Lib.hid (HB.out.trans (hb2.mono HB.out.size))
  clear hb2 a0 a1 a2 a3 a4 a5 a6 a7 hkl
  cases sb with
  | true =>
    go_wp2_with fail
    go_ret
    exact ⟨by rw [HOK.out (by simp)]; rfl, HB2.out⟩
  | false =>
    go_wp2_with fail
    go_ret
    exact ⟨by rw [HNO.out (by simp)]; rfl, HB2.out⟩

set_option linter.unusedVariables false in
set_option linter.unusedSimpArgs false in
set_option maxRecDepth 100000 in
set_option maxHeartbeats 2000000 in
theorem check_enum (nm : List UInt8) (hn : nm = [101, 110, 117, 109]) (k : Int) (b : Bool) (n : Nm.Num) (s : List UInt8) (l : List Vl) (m : List Js.Mem) (A : Option Addr) (e : Nat) (B : Option Addr) (d : Nat) (w : World) (hx : (Vl.mk k b n s l m).In w.cell? (.agg #[.int .i64 k, .bool b, .bool n.neg, .string ⟨n.digits.toArray⟩, .int .i64 n.exp, .string ⟨s.toArray⟩, .slice A l.length e, .slice B m.length d])) (hT : Tab w) (hf : Fine (.mk k b n s l m)) (q1 : l.length ≤ e) (q2 : e ≤ maxLen) (q3 : m.length ≤ d) (q4 : d ≤ maxLen) (q5 : SlL w.cell? A l) (q6 : SlM w.cell? B m) :
    Calls Tryd.prog 6 #[.string ⟨nm.toArray⟩, .agg #[.int .i64 k, .bool b, .bool n.neg, .string ⟨n.digits.toArray⟩, .int .i64 n.exp, .string ⟨s.toArray⟩, .slice A l.length e, .slice B m.length d]] w fun e w' => e = .returned (errV (Sh.shape nm (.mk k b n s l m))) ∧ Below w.heap.size w w' := by
  have HQ := Lib.hid (show Sh.kw nm = 2 by rcases hn with rfl <;> decide)
  have hb1 := (Below.refl w.heap.size w).alloc (Nat.le_refl _) (.cells #[.int .i64 k, .bool b, .bool n.neg, .string ⟨n.digits.toArray⟩, .int .i64 n.exp, .string ⟨s.toArray⟩, .slice A l.length e, .slice B m.length d] 28)
  have HB := Lib.hid hb1
  have HK := Lib.hid (Blk.new w 28 #[.int .i64 k, .bool b, .bool n.neg, .string ⟨n.digits.toArray⟩, .int .i64 n.exp, .string ⟨s.toArray⟩, .slice A l.length e, .slice B m.length d])
  subst hn
  clear hx hT hf q5 q6 hb1
  unfold maxLen at q2 q4
  by_cases h4 : k = 4
  · have t4 : (k == 4) = true := by simpa using h4
    by_cases hl : 0 < l.length
    · have tl : decide ((0 : Int) < (l.length : Int)) = true := decide_eq_true (by omega)
      have tn : decide (0 < l.length) = true := decide_eq_true hl
      have HF := Lib.hid (Sh.shape_ok (v := (.mk k b n s l m)) HQ.out (by decide) (by simp only [Sh.okOf, decide_eq_true h4, decide_eq_true hl]; rfl))
      clear h4 hl
      go_enter Tryd.func6, Tryd.ntmps6
      go_wp2_with fail
      go_ret
      exact ⟨by rw [HF.out]; rfl, HB.out⟩
    · have tl : decide ((0 : Int) < (l.length : Int)) = false := decide_eq_false (by omega)
      have tn : decide (0 < l.length) = false := decide_eq_false hl
      have HF := Lib.hid (Sh.shape_no (v := (.mk k b n s l m)) HQ.out (by decide) (by simp only [Sh.okOf, decide_eq_false hl, Bool.and_false]))
      clear h4 hl
      go_enter Tryd.func6, Tryd.ntmps6
      go_wp2_with fail
      go_ret
      exact ⟨by rw [HF.out]; rfl, HB.out⟩
  · have t4 : (k == 4) = false := by simpa using h4
    have HF := Lib.hid (Sh.shape_no (v := (.mk k b n s l m)) HQ.out (by decide) (by simp only [Sh.okOf, decide_eq_false h4, Bool.false_and]))
    clear h4
    go_enter Tryd.func6, Tryd.ntmps6
    go_wp2_with fail
    go_ret
    exact ⟨by rw [HF.out]; rfl, HB.out⟩

set_option linter.unusedVariables false in
set_option linter.unusedSimpArgs false in
set_option maxRecDepth 100000 in
set_option maxHeartbeats 2000000 in
theorem check_const (nm : List UInt8) (hn : nm = [99, 111, 110, 115, 116]) (k : Int) (b : Bool) (n : Nm.Num) (s : List UInt8) (l : List Vl) (m : List Js.Mem) (A : Option Addr) (e : Nat) (B : Option Addr) (d : Nat) (w : World) (hx : (Vl.mk k b n s l m).In w.cell? (.agg #[.int .i64 k, .bool b, .bool n.neg, .string ⟨n.digits.toArray⟩, .int .i64 n.exp, .string ⟨s.toArray⟩, .slice A l.length e, .slice B m.length d])) (hT : Tab w) (hf : Fine (.mk k b n s l m)) (q1 : l.length ≤ e) (q2 : e ≤ maxLen) (q3 : m.length ≤ d) (q4 : d ≤ maxLen) (q5 : SlL w.cell? A l) (q6 : SlM w.cell? B m) :
    Calls Tryd.prog 6 #[.string ⟨nm.toArray⟩, .agg #[.int .i64 k, .bool b, .bool n.neg, .string ⟨n.digits.toArray⟩, .int .i64 n.exp, .string ⟨s.toArray⟩, .slice A l.length e, .slice B m.length d]] w fun e w' => e = .returned (errV (Sh.shape nm (.mk k b n s l m))) ∧ Below w.heap.size w w' := by
  have HQ := Lib.hid (show Sh.kw nm = 3 by rcases hn with rfl <;> decide)
  have hb1 := (Below.refl w.heap.size w).alloc (Nat.le_refl _) (.cells #[.int .i64 k, .bool b, .bool n.neg, .string ⟨n.digits.toArray⟩, .int .i64 n.exp, .string ⟨s.toArray⟩, .slice A l.length e, .slice B m.length d] 28)
  have HB := Lib.hid hb1
  have HK := Lib.hid (Blk.new w 28 #[.int .i64 k, .bool b, .bool n.neg, .string ⟨n.digits.toArray⟩, .int .i64 n.exp, .string ⟨s.toArray⟩, .slice A l.length e, .slice B m.length d])
  subst hn
  clear hx hT hf q5 q6 hb1
  unfold maxLen at q2 q4
  have HF := Lib.hid (Sh.shape_ok (v := (.mk k b n s l m)) HQ.out (by decide) (rfl))
  go_enter Tryd.func6, Tryd.ntmps6
  go_wp2_with fail
  go_ret
  exact ⟨by rw [HF.out]; rfl, HB.out⟩

set_option linter.unusedVariables false in
set_option linter.unusedSimpArgs false in
set_option maxRecDepth 100000 in
set_option maxHeartbeats 2000000 in
theorem check_number (nm : List UInt8) (hn : nm = [109, 105, 110, 105, 109, 117, 109] ∨ nm = [109, 97, 120, 105, 109, 117, 109]) (k : Int) (b : Bool) (n : Nm.Num) (s : List UInt8) (l : List Vl) (m : List Js.Mem) (A : Option Addr) (e : Nat) (B : Option Addr) (d : Nat) (w : World) (hx : (Vl.mk k b n s l m).In w.cell? (.agg #[.int .i64 k, .bool b, .bool n.neg, .string ⟨n.digits.toArray⟩, .int .i64 n.exp, .string ⟨s.toArray⟩, .slice A l.length e, .slice B m.length d])) (hT : Tab w) (hf : Fine (.mk k b n s l m)) (q1 : l.length ≤ e) (q2 : e ≤ maxLen) (q3 : m.length ≤ d) (q4 : d ≤ maxLen) (q5 : SlL w.cell? A l) (q6 : SlM w.cell? B m) :
    Calls Tryd.prog 6 #[.string ⟨nm.toArray⟩, .agg #[.int .i64 k, .bool b, .bool n.neg, .string ⟨n.digits.toArray⟩, .int .i64 n.exp, .string ⟨s.toArray⟩, .slice A l.length e, .slice B m.length d]] w fun e w' => e = .returned (errV (Sh.shape nm (.mk k b n s l m))) ∧ Below w.heap.size w w' := by
  have HQ := Lib.hid (show Sh.kw nm = 4 by rcases hn with rfl | rfl <;> decide)
  have hb1 := (Below.refl w.heap.size w).alloc (Nat.le_refl _) (.cells #[.int .i64 k, .bool b, .bool n.neg, .string ⟨n.digits.toArray⟩, .int .i64 n.exp, .string ⟨s.toArray⟩, .slice A l.length e, .slice B m.length d] 28)
  have HB := Lib.hid hb1
  have HK := Lib.hid (Blk.new w 28 #[.int .i64 k, .bool b, .bool n.neg, .string ⟨n.digits.toArray⟩, .int .i64 n.exp, .string ⟨s.toArray⟩, .slice A l.length e, .slice B m.length d])
  rcases hn with rfl | rfl
  all_goals
    clear hx hT hf q5 q6 hb1
    unfold maxLen at q2 q4
    by_cases hk : k = 2
    · have t1 : (k == 2) = true := by simpa using hk
      have HF := Lib.hid (Sh.shape_ok (v := (.mk k b n s l m)) HQ.out (by decide) (decide_eq_true hk))
      clear hk
      go_enter Tryd.func6, Tryd.ntmps6
      go_wp2_with fail
      go_ret
      exact ⟨by rw [HF.out]; rfl, HB.out⟩
    · have t1 : (k == 2) = false := by simpa using hk
      have HF := Lib.hid (Sh.shape_no (v := (.mk k b n s l m)) HQ.out (by decide) (decide_eq_false hk))
      clear hk
      go_enter Tryd.func6, Tryd.ntmps6
      go_wp2_with fail
      go_ret
      exact ⟨by rw [HF.out]; rfl, HB.out⟩

set_option linter.unusedVariables false in
set_option linter.unusedSimpArgs false in
set_option maxRecDepth 100000 in
set_option maxHeartbeats 2000000 in
theorem check_count (nm : List UInt8) (hn : nm = [109, 105, 110, 76, 101, 110, 103, 116, 104] ∨ nm = [109, 97, 120, 76, 101, 110, 103, 116, 104] ∨ nm = [109, 105, 110, 73, 116, 101, 109, 115] ∨ nm = [109, 97, 120, 73, 116, 101, 109, 115]) (k : Int) (b : Bool) (n : Nm.Num) (s : List UInt8) (l : List Vl) (m : List Js.Mem) (A : Option Addr) (e : Nat) (B : Option Addr) (d : Nat) (w : World) (hx : (Vl.mk k b n s l m).In w.cell? (.agg #[.int .i64 k, .bool b, .bool n.neg, .string ⟨n.digits.toArray⟩, .int .i64 n.exp, .string ⟨s.toArray⟩, .slice A l.length e, .slice B m.length d])) (hT : Tab w) (hf : Fine (.mk k b n s l m)) (q1 : l.length ≤ e) (q2 : e ≤ maxLen) (q3 : m.length ≤ d) (q4 : d ≤ maxLen) (q5 : SlL w.cell? A l) (q6 : SlM w.cell? B m) :
    Calls Tryd.prog 6 #[.string ⟨nm.toArray⟩, .agg #[.int .i64 k, .bool b, .bool n.neg, .string ⟨n.digits.toArray⟩, .int .i64 n.exp, .string ⟨s.toArray⟩, .slice A l.length e, .slice B m.length d]] w fun e w' => e = .returned (errV (Sh.shape nm (.mk k b n s l m))) ∧ Below w.heap.size w w' := by
  have HQ := Lib.hid (show Sh.kw nm = 5 by rcases hn with rfl | rfl | rfl | rfl <;> decide)
  have hb1 := (Below.refl w.heap.size w).alloc (Nat.le_refl _) (.cells #[.int .i64 k, .bool b, .bool n.neg, .string ⟨n.digits.toArray⟩, .int .i64 n.exp, .string ⟨s.toArray⟩, .slice A l.length e, .slice B m.length d] 28)
  have HB := Lib.hid hb1
  have HK := Lib.hid (Blk.new w 28 #[.int .i64 k, .bool b, .bool n.neg, .string ⟨n.digits.toArray⟩, .int .i64 n.exp, .string ⟨s.toArray⟩, .slice A l.length e, .slice B m.length d])
  rcases hn with rfl | rfl | rfl | rfl
  all_goals
    obtain ⟨sb, hsb⟩ : ∃ sb, Sh.okOf 5 (.mk k b n s l m) = sb := ⟨_, rfl⟩
    have HOK := Lib.hid (show sb = true → Sh.shape _ (.mk k b n s l m) = 0 from fun h => Sh.shape_ok HQ.out (by decide) (by rw [hsb, h]))
    have HNO := Lib.hid (show sb = false → Sh.shape _ (.mk k b n s l m) = 11 from fun h => Sh.shape_no HQ.out (by decide) (by rw [hsb, h]))
    have HC := Lib.hid (fun (W : World) (h : Below w.heap.size w W) => isCount_any (.mk k b n s l m) _ W (hT.keep h) hf.1 (In.keep (le_below h) _ _ hx))
    rw [hsb] at HC
    clear hx hT hf q5 q6 hb1 hsb
    unfold maxLen at q2 q4
    go_enter Tryd.func6, Tryd.ntmps6
    go_upto_region 16 with (fail)
    generalize w.alloc (.cells #[.int .i64 k, .bool b, .bool n.neg, .string ⟨n.digits.toArray⟩, .int .i64 n.exp, .string ⟨s.toArray⟩, .slice A l.length e, .slice B m.length d] 28) = w1 at *
    obtain ⟨a0, a1, a2, a3, a4, a5, a6, a7⟩ := HK.out.eight
    have hkl := HK.out.lt
    go_wp2_with fail
    refine (HC.out _ HB.out).mono ?_
    rintro e2 w2 ⟨rfl, hb2⟩
    have HB2 := Lib.hid (HB.out.trans (hb2.mono HB.out.size))
    clear hb2 a0 a1 a2 a3 a4 a5 a6 a7 hkl
    cases sb with
    | true =>
      go_wp2_with fail
      go_ret
      exact ⟨by rw [HOK.out (by simp)]; rfl, HB2.out⟩
    | false =>
      go_wp2_with fail
      go_ret
      exact ⟨by rw [HNO.out (by simp)]; rfl, HB2.out⟩

set_option linter.unusedVariables false in
set_option linter.unusedSimpArgs false in
set_option maxRecDepth 100000 in
set_option maxHeartbeats 2000000 in
theorem check_bool (nm : List UInt8) (hn : nm = [117, 110, 105, 113, 117, 101, 73, 116, 101, 109, 115]) (k : Int) (b : Bool) (n : Nm.Num) (s : List UInt8) (l : List Vl) (m : List Js.Mem) (A : Option Addr) (e : Nat) (B : Option Addr) (d : Nat) (w : World) (hx : (Vl.mk k b n s l m).In w.cell? (.agg #[.int .i64 k, .bool b, .bool n.neg, .string ⟨n.digits.toArray⟩, .int .i64 n.exp, .string ⟨s.toArray⟩, .slice A l.length e, .slice B m.length d])) (hT : Tab w) (hf : Fine (.mk k b n s l m)) (q1 : l.length ≤ e) (q2 : e ≤ maxLen) (q3 : m.length ≤ d) (q4 : d ≤ maxLen) (q5 : SlL w.cell? A l) (q6 : SlM w.cell? B m) :
    Calls Tryd.prog 6 #[.string ⟨nm.toArray⟩, .agg #[.int .i64 k, .bool b, .bool n.neg, .string ⟨n.digits.toArray⟩, .int .i64 n.exp, .string ⟨s.toArray⟩, .slice A l.length e, .slice B m.length d]] w fun e w' => e = .returned (errV (Sh.shape nm (.mk k b n s l m))) ∧ Below w.heap.size w w' := by
  have HQ := Lib.hid (show Sh.kw nm = 6 by rcases hn with rfl <;> decide)
  have hb1 := (Below.refl w.heap.size w).alloc (Nat.le_refl _) (.cells #[.int .i64 k, .bool b, .bool n.neg, .string ⟨n.digits.toArray⟩, .int .i64 n.exp, .string ⟨s.toArray⟩, .slice A l.length e, .slice B m.length d] 28)
  have HB := Lib.hid hb1
  have HK := Lib.hid (Blk.new w 28 #[.int .i64 k, .bool b, .bool n.neg, .string ⟨n.digits.toArray⟩, .int .i64 n.exp, .string ⟨s.toArray⟩, .slice A l.length e, .slice B m.length d])
  subst hn
  clear hx hT hf q5 q6 hb1
  unfold maxLen at q2 q4
  by_cases hk : k = 1
  · have t1 : (k == 1) = true := by simpa using hk
    have HF := Lib.hid (Sh.shape_ok (v := (.mk k b n s l m)) HQ.out (by decide) (decide_eq_true hk))
    clear hk
    go_enter Tryd.func6, Tryd.ntmps6
    go_wp2_with fail
    go_ret
    exact ⟨by rw [HF.out]; rfl, HB.out⟩
  · have t1 : (k == 1) = false := by simpa using hk
    have HF := Lib.hid (Sh.shape_no (v := (.mk k b n s l m)) HQ.out (by decide) (decide_eq_false hk))
    clear hk
    go_enter Tryd.func6, Tryd.ntmps6
    go_wp2_with fail
    go_ret
    exact ⟨by rw [HF.out]; rfl, HB.out⟩

set_option linter.unusedVariables false in
set_option linter.unusedSimpArgs false in
set_option maxRecDepth 100000 in
set_option maxHeartbeats 2000000 in
theorem check_required (nm : List UInt8) (hn : nm = [114, 101, 113, 117, 105, 114, 101, 100]) (k : Int) (b : Bool) (n : Nm.Num) (s : List UInt8) (l : List Vl) (m : List Js.Mem) (A : Option Addr) (e : Nat) (B : Option Addr) (d : Nat) (w : World) (hx : (Vl.mk k b n s l m).In w.cell? (.agg #[.int .i64 k, .bool b, .bool n.neg, .string ⟨n.digits.toArray⟩, .int .i64 n.exp, .string ⟨s.toArray⟩, .slice A l.length e, .slice B m.length d])) (hT : Tab w) (hf : Fine (.mk k b n s l m)) (q1 : l.length ≤ e) (q2 : e ≤ maxLen) (q3 : m.length ≤ d) (q4 : d ≤ maxLen) (q5 : SlL w.cell? A l) (q6 : SlM w.cell? B m) :
    Calls Tryd.prog 6 #[.string ⟨nm.toArray⟩, .agg #[.int .i64 k, .bool b, .bool n.neg, .string ⟨n.digits.toArray⟩, .int .i64 n.exp, .string ⟨s.toArray⟩, .slice A l.length e, .slice B m.length d]] w fun e w' => e = .returned (errV (Sh.shape nm (.mk k b n s l m))) ∧ Below w.heap.size w w' := by
  have HQ := Lib.hid (show Sh.kw nm = 7 by rcases hn with rfl <;> decide)
  have hb1 := (Below.refl w.heap.size w).alloc (Nat.le_refl _) (.cells #[.int .i64 k, .bool b, .bool n.neg, .string ⟨n.digits.toArray⟩, .int .i64 n.exp, .string ⟨s.toArray⟩, .slice A l.length e, .slice B m.length d] 28)
  have HB := Lib.hid hb1
  have HK := Lib.hid (Blk.new w 28 #[.int .i64 k, .bool b, .bool n.neg, .string ⟨n.digits.toArray⟩, .int .i64 n.exp, .string ⟨s.toArray⟩, .slice A l.length e, .slice B m.length d])
  subst hn
  by_cases hk : k = 4
  · have t1 : (k == 4) = true := by simpa using hk
    obtain ⟨sb, hsb⟩ : ∃ sb, Sh.okOf 7 (.mk k b n s l m) = sb := ⟨_, rfl⟩
    have HOK := Lib.hid (show sb = true → Sh.shape _ (.mk k b n s l m) = 0 from fun h => Sh.shape_ok HQ.out (by decide) (by rw [hsb, h]))
    have HNO := Lib.hid (show sb = false → Sh.shape _ (.mk k b n s l m) = 11 from fun h => Sh.shape_no HQ.out (by decide) (by rw [hsb, h]))
    have HFL := Lib.hid (Sh.fine_len hf)
    have HC := Lib.hid (fun (W : World) (h : Below w.heap.size w W) => unlike_any l A e W (q5.keep (le_below h)) q1 q2 HFL.out.1 HFL.out.2)
    rw [show Sh.textsL l = sb by rw [← hsb]; simp [Sh.okOf, Sh.texts, hk]] at HC
    clear hk
    clear hx hT hf q5 q6 hb1 hsb
    unfold maxLen at q2 q4
    go_enter Tryd.func6, Tryd.ntmps6
    go_upto_region 20 with (fail)
    generalize w.alloc (.cells #[.int .i64 k, .bool b, .bool n.neg, .string ⟨n.digits.toArray⟩, .int .i64 n.exp, .string ⟨s.toArray⟩, .slice A l.length e, .slice B m.length d] 28) = w1 at *
    obtain ⟨a0, a1, a2, a3, a4, a5, a6, a7⟩ := HK.out.eight
    have hkl := HK.out.lt
    go_wp2_with fail
    refine (HC.out _ HB.out).mono ?_
    rintro e2 w2 ⟨rfl, hb2⟩
    have HB2 := Lib.hid (HB.out.trans (hb2.mono HB.out.size))
    clear hb2 a0 a1 a2 a3 a4 a5 a6 a7 hkl
    cases sb with
    | true =>
      go_wp2_with fail
      go_ret
      exact ⟨by rw [HOK.out (by simp)]; rfl, HB2.out⟩
    | false =>
      go_wp2_with fail
      go_ret
      exact ⟨by rw [HNO.out (by simp)]; rfl, HB2.out⟩
  · have t1 : (k == 4) = false := by simpa using hk
    have HF := Lib.hid (Sh.shape_no (v := (.mk k b n s l m)) HQ.out (by decide) (by simp [Sh.okOf, Sh.texts, hk]))
    clear hx hT hf q5 q6 hb1
    unfold maxLen at q2 q4
    clear hk
    go_enter Tryd.func6, Tryd.ntmps6
    go_wp2_with fail
    go_ret
    exact ⟨by rw [HF.out]; rfl, HB.out⟩

set_option linter.unusedVariables false in
set_option linter.unusedSimpArgs false in
set_option maxRecDepth 100000 in
set_option maxHeartbeats 2000000 in
theorem check_schema (nm : List UInt8) (hn : nm = [105, 116, 101, 109, 115] ∨ nm = [97, 100, 100, 105, 116, 105, 111, 110, 97, 108, 80, 114, 111, 112, 101, 114, 116, 105, 101, 115] ∨ nm = [110, 111, 116]) (k : Int) (b : Bool) (n : Nm.Num) (s : List UInt8) (l : List Vl) (m : List Js.Mem) (A : Option Addr) (e : Nat) (B : Option Addr) (d : Nat) (w : World) (hx : (Vl.mk k b n s l m).In w.cell? (.agg #[.int .i64 k, .bool b, .bool n.neg, .string ⟨n.digits.toArray⟩, .int .i64 n.exp, .string ⟨s.toArray⟩, .slice A l.length e, .slice B m.length d])) (hT : Tab w) (hf : Fine (.mk k b n s l m)) (q1 : l.length ≤ e) (q2 : e ≤ maxLen) (q3 : m.length ≤ d) (q4 : d ≤ maxLen) (q5 : SlL w.cell? A l) (q6 : SlM w.cell? B m) :
    Calls Tryd.prog 6 #[.string ⟨nm.toArray⟩, .agg #[.int .i64 k, .bool b, .bool n.neg, .string ⟨n.digits.toArray⟩, .int .i64 n.exp, .string ⟨s.toArray⟩, .slice A l.length e, .slice B m.length d]] w fun e w' => e = .returned (errV (Sh.shape nm (.mk k b n s l m))) ∧ Below w.heap.size w w' := by
  have HQ := Lib.hid (show Sh.kw nm = 8 by rcases hn with rfl | rfl | rfl <;> decide)
  have hb1 := (Below.refl w.heap.size w).alloc (Nat.le_refl _) (.cells #[.int .i64 k, .bool b, .bool n.neg, .string ⟨n.digits.toArray⟩, .int .i64 n.exp, .string ⟨s.toArray⟩, .slice A l.length e, .slice B m.length d] 28)
  have HB := Lib.hid hb1
  have HK := Lib.hid (Blk.new w 28 #[.int .i64 k, .bool b, .bool n.neg, .string ⟨n.digits.toArray⟩, .int .i64 n.exp, .string ⟨s.toArray⟩, .slice A l.length e, .slice B m.length d])
  rcases hn with rfl | rfl | rfl
  all_goals
    obtain ⟨sb, hsb⟩ : ∃ sb, Sh.okOf 8 (.mk k b n s l m) = sb := ⟨_, rfl⟩
    have HOK := Lib.hid (show sb = true → Sh.shape _ (.mk k b n s l m) = 0 from fun h => Sh.shape_ok HQ.out (by decide) (by rw [hsb, h]))
    have HNO := Lib.hid (show sb = false → Sh.shape _ (.mk k b n s l m) = 11 from fun h => Sh.shape_no HQ.out (by decide) (by rw [hsb, h]))
    have HC := Lib.hid (fun (W : World) (h : Below w.heap.size w W) => isSchema_any (.mk k b n s l m) _ W (In.keep (le_below h) _ _ hx))
    rw [show Sh.isSch (.mk k b n s l m) = sb from hsb] at HC
    clear hx hT hf q5 q6 hb1 hsb
    unfold maxLen at q2 q4
    go_enter Tryd.func6, Tryd.ntmps6
    go_upto_region 24 with (fail)
    generalize w.alloc (.cells #[.int .i64 k, .bool b, .bool n.neg, .string ⟨n.digits.toArray⟩, .int .i64 n.exp, .string ⟨s.toArray⟩, .slice A l.length e, .slice B m.length d] 28) = w1 at *
    obtain ⟨a0, a1, a2, a3, a4, a5, a6, a7⟩ := HK.out.eight
    have hkl := HK.out.lt
    go_wp2_with fail
    refine (HC.out _ HB.out).mono ?_
    rintro e2 w2 ⟨rfl, hb2⟩
    have HB2 := Lib.hid (HB.out.trans (hb2.mono HB.out.size))
    clear hb2 a0 a1 a2 a3 a4 a5 a6 a7 hkl
    cases sb with
    | true =>
      go_wp2_with fail
      go_ret
      exact ⟨by rw [HOK.out (by simp)]; rfl, HB2.out⟩
    | false =>
      go_wp2_with fail
      go_ret
      exact ⟨by rw [HNO.out (by simp)]; rfl, HB2.out⟩

set_option linter.unusedVariables false in
set_option linter.unusedSimpArgs false in
set_option maxRecDepth 100000 in
set_option maxHeartbeats 2000000 in
theorem check_props (nm : List UInt8) (hn : nm = [112, 114, 111, 112, 101, 114, 116, 105, 101, 115] ∨ nm = [36, 100, 101, 102, 115]) (k : Int) (b : Bool) (n : Nm.Num) (s : List UInt8) (l : List Vl) (m : List Js.Mem) (A : Option Addr) (e : Nat) (B : Option Addr) (d : Nat) (w : World) (hx : (Vl.mk k b n s l m).In w.cell? (.agg #[.int .i64 k, .bool b, .bool n.neg, .string ⟨n.digits.toArray⟩, .int .i64 n.exp, .string ⟨s.toArray⟩, .slice A l.length e, .slice B m.length d])) (hT : Tab w) (hf : Fine (.mk k b n s l m)) (q1 : l.length ≤ e) (q2 : e ≤ maxLen) (q3 : m.length ≤ d) (q4 : d ≤ maxLen) (q5 : SlL w.cell? A l) (q6 : SlM w.cell? B m) :
    Calls Tryd.prog 6 #[.string ⟨nm.toArray⟩, .agg #[.int .i64 k, .bool b, .bool n.neg, .string ⟨n.digits.toArray⟩, .int .i64 n.exp, .string ⟨s.toArray⟩, .slice A l.length e, .slice B m.length d]] w fun e w' => e = .returned (errV (Sh.shape nm (.mk k b n s l m))) ∧ Below w.heap.size w w' := by
  have HQ := Lib.hid (show Sh.kw nm = 9 by rcases hn with rfl | rfl <;> decide)
  have hb1 := (Below.refl w.heap.size w).alloc (Nat.le_refl _) (.cells #[.int .i64 k, .bool b, .bool n.neg, .string ⟨n.digits.toArray⟩, .int .i64 n.exp, .string ⟨s.toArray⟩, .slice A l.length e, .slice B m.length d] 28)
  have HB := Lib.hid hb1
  have HK := Lib.hid (Blk.new w 28 #[.int .i64 k, .bool b, .bool n.neg, .string ⟨n.digits.toArray⟩, .int .i64 n.exp, .string ⟨s.toArray⟩, .slice A l.length e, .slice B m.length d])
  rcases hn with rfl | rfl
  all_goals
    by_cases hk : k = 5
    · have t1 : (k == 5) = true := by simpa using hk
      obtain ⟨sb, hsb⟩ : ∃ sb, Sh.okOf 9 (.mk k b n s l m) = sb := ⟨_, rfl⟩
      have HOK := Lib.hid (show sb = true → Sh.shape _ (.mk k b n s l m) = 0 from fun h => Sh.shape_ok HQ.out (by decide) (by rw [hsb, h]))
      have HNO := Lib.hid (show sb = false → Sh.shape _ (.mk k b n s l m) = 11 from fun h => Sh.shape_no HQ.out (by decide) (by rw [hsb, h]))
      have HC := Lib.hid (fun (W : World) (h : Below w.heap.size w W) => haveSchemas_any m B d W (q6.keep (le_below h)) q3 q4)
      rw [show Sh.allM m = sb by rw [← hsb]; simp [Sh.okOf, hk]] at HC
      clear hk
      clear hx hT hf q5 q6 hb1 hsb
      unfold maxLen at q2 q4
      go_enter Tryd.func6, Tryd.ntmps6
      go_upto_region 27 with (fail)
      generalize w.alloc (.cells #[.int .i64 k, .bool b, .bool n.neg, .string ⟨n.digits.toArray⟩, .int .i64 n.exp, .string ⟨s.toArray⟩, .slice A l.length e, .slice B m.length d] 28) = w1 at *
      obtain ⟨a0, a1, a2, a3, a4, a5, a6, a7⟩ := HK.out.eight
      have hkl := HK.out.lt
      go_wp2_with fail
      refine (HC.out _ HB.out).mono ?_
      rintro e2 w2 ⟨rfl, hb2⟩
      have HB2 := Lib.hid (HB.out.trans (hb2.mono HB.out.size))
      clear hb2 a0 a1 a2 a3 a4 a5 a6 a7 hkl
      cases sb with
      | true =>
        go_wp2_with fail
        go_ret
        exact ⟨by rw [HOK.out (by simp)]; rfl, HB2.out⟩
      | false =>
        go_wp2_with fail
        go_ret
        exact ⟨by rw [HNO.out (by simp)]; rfl, HB2.out⟩
    · have t1 : (k == 5) = false := by simpa using hk
      have HF := Lib.hid (Sh.shape_no (v := (.mk k b n s l m)) HQ.out (by decide) (by simp [Sh.okOf, hk]))
      clear hx hT hf q5 q6 hb1
      unfold maxLen at q2 q4
      clear hk
      go_enter Tryd.func6, Tryd.ntmps6
      go_wp2_with fail
      go_ret
      exact ⟨by rw [HF.out]; rfl, HB.out⟩

set_option linter.unusedVariables false in
set_option linter.unusedSimpArgs false in
set_option maxRecDepth 100000 in
set_option maxHeartbeats 2000000 in
theorem check_listof (nm : List UInt8) (hn : nm = [97, 108, 108, 79, 102] ∨ nm = [97, 110, 121, 79, 102] ∨ nm = [111, 110, 101, 79, 102]) (k : Int) (b : Bool) (n : Nm.Num) (s : List UInt8) (l : List Vl) (m : List Js.Mem) (A : Option Addr) (e : Nat) (B : Option Addr) (d : Nat) (w : World) (hx : (Vl.mk k b n s l m).In w.cell? (.agg #[.int .i64 k, .bool b, .bool n.neg, .string ⟨n.digits.toArray⟩, .int .i64 n.exp, .string ⟨s.toArray⟩, .slice A l.length e, .slice B m.length d])) (hT : Tab w) (hf : Fine (.mk k b n s l m)) (q1 : l.length ≤ e) (q2 : e ≤ maxLen) (q3 : m.length ≤ d) (q4 : d ≤ maxLen) (q5 : SlL w.cell? A l) (q6 : SlM w.cell? B m) :
    Calls Tryd.prog 6 #[.string ⟨nm.toArray⟩, .agg #[.int .i64 k, .bool b, .bool n.neg, .string ⟨n.digits.toArray⟩, .int .i64 n.exp, .string ⟨s.toArray⟩, .slice A l.length e, .slice B m.length d]] w fun e w' => e = .returned (errV (Sh.shape nm (.mk k b n s l m))) ∧ Below w.heap.size w w' := by
  have HQ := Lib.hid (show Sh.kw nm = 10 by rcases hn with rfl | rfl | rfl <;> decide)
  have hb1 := (Below.refl w.heap.size w).alloc (Nat.le_refl _) (.cells #[.int .i64 k, .bool b, .bool n.neg, .string ⟨n.digits.toArray⟩, .int .i64 n.exp, .string ⟨s.toArray⟩, .slice A l.length e, .slice B m.length d] 28)
  have HB := Lib.hid hb1
  have HK := Lib.hid (Blk.new w 28 #[.int .i64 k, .bool b, .bool n.neg, .string ⟨n.digits.toArray⟩, .int .i64 n.exp, .string ⟨s.toArray⟩, .slice A l.length e, .slice B m.length d])
  rcases hn with rfl | rfl | rfl
  all_goals
    by_cases hk : k = 4
    · have t1 : (k == 4) = true := by simpa using hk
      by_cases hl : 0 < l.length
      · have tl : decide ((0 : Int) < (l.length : Int)) = true := decide_eq_true (by omega)
        have tn : decide (0 < l.length) = true := decide_eq_true hl
        obtain ⟨sb, hsb⟩ : ∃ sb, Sh.okOf 10 (.mk k b n s l m) = sb := ⟨_, rfl⟩
        have HOK := Lib.hid (show sb = true → Sh.shape _ (.mk k b n s l m) = 0 from fun h => Sh.shape_ok HQ.out (by decide) (by rw [hsb, h]))
        have HNO := Lib.hid (show sb = false → Sh.shape _ (.mk k b n s l m) = 11 from fun h => Sh.shape_no HQ.out (by decide) (by rw [hsb, h]))
        have HC := Lib.hid (fun (W : World) (h : Below w.heap.size w W) => allSchema_any l A e W (q5.keep (le_below h)) q1 q2)
        rw [show Sh.allL l = sb by rw [← hsb]; simp [Sh.okOf, hk, hl]] at HC
        clear hk hl
        clear hx hT hf q5 q6 hb1 hsb
        unfold maxLen at q2 q4
        go_enter Tryd.func6, Tryd.ntmps6
        go_upto_region 31 with (fail)
        generalize w.alloc (.cells #[.int .i64 k, .bool b, .bool n.neg, .string ⟨n.digits.toArray⟩, .int .i64 n.exp, .string ⟨s.toArray⟩, .slice A l.length e, .slice B m.length d] 28) = w1 at *
        obtain ⟨a0, a1, a2, a3, a4, a5, a6, a7⟩ := HK.out.eight
        have hkl := HK.out.lt
        go_wp2_with fail
        refine (HC.out _ HB.out).mono ?_
        rintro e2 w2 ⟨rfl, hb2⟩
        have HB2 := Lib.hid (HB.out.trans (hb2.mono HB.out.size))
        clear hb2 a0 a1 a2 a3 a4 a5 a6 a7 hkl
        cases sb with
        | true =>
          go_wp2_with fail
          go_ret
          exact ⟨by rw [HOK.out (by simp)]; rfl, HB2.out⟩
        | false =>
          go_wp2_with fail
          go_ret
          exact ⟨by rw [HNO.out (by simp)]; rfl, HB2.out⟩
      · have tl : decide ((0 : Int) < (l.length : Int)) = false := decide_eq_false (by omega)
        have tn : decide (0 < l.length) = false := decide_eq_false hl
        have HF := Lib.hid (Sh.shape_no (v := (.mk k b n s l m)) HQ.out (by decide) (by simp only [Sh.okOf, decide_eq_false hl, Bool.and_false, Bool.false_and]))
        clear hx hT hf q5 q6 hb1
        unfold maxLen at q2 q4
        clear hk hl
        go_enter Tryd.func6, Tryd.ntmps6
        go_wp2_with fail
        go_ret
        exact ⟨by rw [HF.out]; rfl, HB.out⟩
    · have t1 : (k == 4) = false := by simpa using hk
      have HF := Lib.hid (Sh.shape_no (v := (.mk k b n s l m)) HQ.out (by decide) (by simp only [Sh.okOf, decide_eq_false hk, Bool.false_and]))
      clear hx hT hf q5 q6 hb1
      unfold maxLen at q2 q4
      clear hk
      go_enter Tryd.func6, Tryd.ntmps6
      go_wp2_with fail
      go_ret
      exact ⟨by rw [HF.out]; rfl, HB.out⟩

set_option linter.unusedVariables false in
set_option linter.unusedSimpArgs false in
set_option maxRecDepth 100000 in
set_option maxHeartbeats 2000000 in
theorem check_ref (nm : List UInt8) (hn : nm = [36, 114, 101, 102]) (k : Int) (b : Bool) (n : Nm.Num) (s : List UInt8) (l : List Vl) (m : List Js.Mem) (A : Option Addr) (e : Nat) (B : Option Addr) (d : Nat) (w : World) (hx : (Vl.mk k b n s l m).In w.cell? (.agg #[.int .i64 k, .bool b, .bool n.neg, .string ⟨n.digits.toArray⟩, .int .i64 n.exp, .string ⟨s.toArray⟩, .slice A l.length e, .slice B m.length d])) (hT : Tab w) (hf : Fine (.mk k b n s l m)) (q1 : l.length ≤ e) (q2 : e ≤ maxLen) (q3 : m.length ≤ d) (q4 : d ≤ maxLen) (q5 : SlL w.cell? A l) (q6 : SlM w.cell? B m) :
    Calls Tryd.prog 6 #[.string ⟨nm.toArray⟩, .agg #[.int .i64 k, .bool b, .bool n.neg, .string ⟨n.digits.toArray⟩, .int .i64 n.exp, .string ⟨s.toArray⟩, .slice A l.length e, .slice B m.length d]] w fun e w' => e = .returned (errV (Sh.shape nm (.mk k b n s l m))) ∧ Below w.heap.size w w' := by
  have HQ := Lib.hid (show Sh.kw nm = 11 by rcases hn with rfl <;> decide)
  have hb1 := (Below.refl w.heap.size w).alloc (Nat.le_refl _) (.cells #[.int .i64 k, .bool b, .bool n.neg, .string ⟨n.digits.toArray⟩, .int .i64 n.exp, .string ⟨s.toArray⟩, .slice A l.length e, .slice B m.length d] 28)
  have HB := Lib.hid hb1
  have HK := Lib.hid (Blk.new w 28 #[.int .i64 k, .bool b, .bool n.neg, .string ⟨n.digits.toArray⟩, .int .i64 n.exp, .string ⟨s.toArray⟩, .slice A l.length e, .slice B m.length d])
  subst hn
  clear hx hT hf q5 q6 hb1
  unfold maxLen at q2 q4
  by_cases hk : k = 3
  · have t1 : (k == 3) = true := by simpa using hk
    have HF := Lib.hid (Sh.shape_ok (v := (.mk k b n s l m)) HQ.out (by decide) (decide_eq_true hk))
    clear hk
    go_enter Tryd.func6, Tryd.ntmps6
    go_wp2_with fail
    go_ret
    exact ⟨by rw [HF.out]; rfl, HB.out⟩
  · have t1 : (k == 3) = false := by simpa using hk
    have HF := Lib.hid (Sh.shape_no (v := (.mk k b n s l m)) HQ.out (by decide) (decide_eq_false hk))
    clear hk
    go_enter Tryd.func6, Tryd.ntmps6
    go_wp2_with fail
    go_ret
    exact ⟨by rw [HF.out]; rfl, HB.out⟩

set_option linter.unusedVariables false in
set_option linter.unusedSimpArgs false in
set_option maxRecDepth 100000 in
set_option maxHeartbeats 2000000 in
theorem check_none (nm : List UInt8) (hn : ∀ p ∈ Sh.kws, ¬ p.1 = nm) (k : Int) (b : Bool) (n : Nm.Num) (s : List UInt8) (l : List Vl) (m : List Js.Mem) (A : Option Addr) (e : Nat) (B : Option Addr) (d : Nat) (w : World) :
    Calls Tryd.prog 6 #[.string ⟨nm.toArray⟩, .agg #[.int .i64 k, .bool b, .bool n.neg, .string ⟨n.digits.toArray⟩, .int .i64 n.exp, .string ⟨s.toArray⟩, .slice A l.length e, .slice B m.length d]] w fun e w' => e = .returned (errV (Sh.shape nm (.mk k b n s l m))) ∧ Below w.heap.size w w' := by
  have HF := Lib.hid (show Sh.shape nm (.mk k b n s l m) = 10 by unfold Sh.shape; rw [if_pos (Sh.kw_none hn)])
  have HB := Lib.hid ((Below.refl w.heap.size w).alloc (Nat.le_refl _) (.cells #[.int .i64 k, .bool b, .bool n.neg, .string ⟨n.digits.toArray⟩, .int .i64 n.exp, .string ⟨s.toArray⟩, .slice A l.length e, .slice B m.length d] 28))
  have e0 : (nm == [116, 121, 112, 101]) = false := by have := hn _ (List.getElem_mem (show 0 < Sh.kws.length by decide)); simpa using fun h => this h.symm
  have e1 : (nm == [101, 110, 117, 109]) = false := by have := hn _ (List.getElem_mem (show 1 < Sh.kws.length by decide)); simpa using fun h => this h.symm
  have e2 : (nm == [99, 111, 110, 115, 116]) = false := by have := hn _ (List.getElem_mem (show 2 < Sh.kws.length by decide)); simpa using fun h => this h.symm
  have e3 : (nm == [109, 105, 110, 105, 109, 117, 109]) = false := by have := hn _ (List.getElem_mem (show 3 < Sh.kws.length by decide)); simpa using fun h => this h.symm
  have e4 : (nm == [109, 97, 120, 105, 109, 117, 109]) = false := by have := hn _ (List.getElem_mem (show 4 < Sh.kws.length by decide)); simpa using fun h => this h.symm
  have e5 : (nm == [109, 105, 110, 76, 101, 110, 103, 116, 104]) = false := by have := hn _ (List.getElem_mem (show 5 < Sh.kws.length by decide)); simpa using fun h => this h.symm
  have e6 : (nm == [109, 97, 120, 76, 101, 110, 103, 116, 104]) = false := by have := hn _ (List.getElem_mem (show 6 < Sh.kws.length by decide)); simpa using fun h => this h.symm
  have e7 : (nm == [109, 105, 110, 73, 116, 101, 109, 115]) = false := by have := hn _ (List.getElem_mem (show 7 < Sh.kws.length by decide)); simpa using fun h => this h.symm
  have e8 : (nm == [109, 97, 120, 73, 116, 101, 109, 115]) = false := by have := hn _ (List.getElem_mem (show 8 < Sh.kws.length by decide)); simpa using fun h => this h.symm
  have e9 : (nm == [117, 110, 105, 113, 117, 101, 73, 116, 101, 109, 115]) = false := by have := hn _ (List.getElem_mem (show 9 < Sh.kws.length by decide)); simpa using fun h => this h.symm
  have e10 : (nm == [114, 101, 113, 117, 105, 114, 101, 100]) = false := by have := hn _ (List.getElem_mem (show 10 < Sh.kws.length by decide)); simpa using fun h => this h.symm
  have e11 : (nm == [105, 116, 101, 109, 115]) = false := by have := hn _ (List.getElem_mem (show 11 < Sh.kws.length by decide)); simpa using fun h => this h.symm
  have e12 : (nm == [97, 100, 100, 105, 116, 105, 111, 110, 97, 108, 80, 114, 111, 112, 101, 114, 116, 105, 101, 115]) = false := by have := hn _ (List.getElem_mem (show 12 < Sh.kws.length by decide)); simpa using fun h => this h.symm
  have e13 : (nm == [110, 111, 116]) = false := by have := hn _ (List.getElem_mem (show 13 < Sh.kws.length by decide)); simpa using fun h => this h.symm
  have e14 : (nm == [112, 114, 111, 112, 101, 114, 116, 105, 101, 115]) = false := by have := hn _ (List.getElem_mem (show 14 < Sh.kws.length by decide)); simpa using fun h => this h.symm
  have e15 : (nm == [36, 100, 101, 102, 115]) = false := by have := hn _ (List.getElem_mem (show 15 < Sh.kws.length by decide)); simpa using fun h => this h.symm
  have e16 : (nm == [97, 108, 108, 79, 102]) = false := by have := hn _ (List.getElem_mem (show 16 < Sh.kws.length by decide)); simpa using fun h => this h.symm
  have e17 : (nm == [97, 110, 121, 79, 102]) = false := by have := hn _ (List.getElem_mem (show 17 < Sh.kws.length by decide)); simpa using fun h => this h.symm
  have e18 : (nm == [111, 110, 101, 79, 102]) = false := by have := hn _ (List.getElem_mem (show 18 < Sh.kws.length by decide)); simpa using fun h => this h.symm
  have e19 : (nm == [36, 114, 101, 102]) = false := by have := hn _ (List.getElem_mem (show 19 < Sh.kws.length by decide)); simpa using fun h => this h.symm
  clear hn
  go_enter Tryd.func6, Tryd.ntmps6
  go_wp2_with fail
  go_ret
  exact ⟨by rw [HF.out]; rfl, HB.out⟩

theorem check_any : CheckT Tab := fun nm v x w hT hn hf hx => by
  obtain ⟨k, b, n, s, l, m⟩ := v
  have hx0 := hx
  obtain ⟨A, e, B, d, rfl, q1, q2, q3, q4, q5, q6⟩ := In.form hx
  by_cases h_type : nm = [116, 121, 112, 101]
  · exact check_type nm h_type k b n s l m A e B d w hx0 hT hf q1 q2 q3 q4 q5 q6
  by_cases h_enum : nm = [101, 110, 117, 109]
  · exact check_enum nm h_enum k b n s l m A e B d w hx0 hT hf q1 q2 q3 q4 q5 q6
  by_cases h_const : nm = [99, 111, 110, 115, 116]
  · exact check_const nm h_const k b n s l m A e B d w hx0 hT hf q1 q2 q3 q4 q5 q6
  by_cases h_number : nm = [109, 105, 110, 105, 109, 117, 109] ∨ nm = [109, 97, 120, 105, 109, 117, 109]
  · exact check_number nm h_number k b n s l m A e B d w hx0 hT hf q1 q2 q3 q4 q5 q6
  by_cases h_count : nm = [109, 105, 110, 76, 101, 110, 103, 116, 104] ∨ nm = [109, 97, 120, 76, 101, 110, 103, 116, 104] ∨ nm = [109, 105, 110, 73, 116, 101, 109, 115] ∨ nm = [109, 97, 120, 73, 116, 101, 109, 115]
  · exact check_count nm h_count k b n s l m A e B d w hx0 hT hf q1 q2 q3 q4 q5 q6
  by_cases h_bool : nm = [117, 110, 105, 113, 117, 101, 73, 116, 101, 109, 115]
  · exact check_bool nm h_bool k b n s l m A e B d w hx0 hT hf q1 q2 q3 q4 q5 q6
  by_cases h_required : nm = [114, 101, 113, 117, 105, 114, 101, 100]
  · exact check_required nm h_required k b n s l m A e B d w hx0 hT hf q1 q2 q3 q4 q5 q6
  by_cases h_schema : nm = [105, 116, 101, 109, 115] ∨ nm = [97, 100, 100, 105, 116, 105, 111, 110, 97, 108, 80, 114, 111, 112, 101, 114, 116, 105, 101, 115] ∨ nm = [110, 111, 116]
  · exact check_schema nm h_schema k b n s l m A e B d w hx0 hT hf q1 q2 q3 q4 q5 q6
  by_cases h_props : nm = [112, 114, 111, 112, 101, 114, 116, 105, 101, 115] ∨ nm = [36, 100, 101, 102, 115]
  · exact check_props nm h_props k b n s l m A e B d w hx0 hT hf q1 q2 q3 q4 q5 q6
  by_cases h_listof : nm = [97, 108, 108, 79, 102] ∨ nm = [97, 110, 121, 79, 102] ∨ nm = [111, 110, 101, 79, 102]
  · exact check_listof nm h_listof k b n s l m A e B d w hx0 hT hf q1 q2 q3 q4 q5 q6
  by_cases h_ref : nm = [36, 114, 101, 102]
  · exact check_ref nm h_ref k b n s l m A e B d w hx0 hT hf q1 q2 q3 q4 q5 q6
  refine check_none nm (fun p hp he => ?_) k b n s l m A e B d w
  subst he
  simp only [Sh.kws, List.mem_cons, List.not_mem_nil, or_false] at hp
  rcases hp with rfl | rfl | rfl | rfl | rfl | rfl | rfl | rfl | rfl | rfl | rfl | rfl | rfl | rfl | rfl | rfl | rfl | rfl | rfl | rfl
  · exact h_type (by simp)
  · exact h_enum (by simp)
  · exact h_const (by simp)
  · exact h_number (by simp)
  · exact h_number (by simp)
  · exact h_count (by simp)
  · exact h_count (by simp)
  · exact h_count (by simp)
  · exact h_count (by simp)
  · exact h_bool (by simp)
  · exact h_required (by simp)
  · exact h_schema (by simp)
  · exact h_schema (by simp)
  · exact h_schema (by simp)
  · exact h_props (by simp)
  · exact h_props (by simp)
  · exact h_listof (by simp)
  · exact h_listof (by simp)
  · exact h_listof (by simp)
  · exact h_ref (by simp)

end Go.Proofs.YtfolfibembplbaaDoor

