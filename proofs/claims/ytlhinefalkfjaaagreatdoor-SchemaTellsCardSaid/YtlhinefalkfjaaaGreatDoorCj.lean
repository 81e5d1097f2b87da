/- Cj: Cj Ck, in one text. -/
import Derived.Test.YtlhinefalkfjaaaGreatDoorCh
namespace Go.Proofs.YtlhinefalkfjaaaGreatDoor
open Go.RowKit Js

theorem Sh.fine_len {k : Int} {b : Bool} {n : Nm.Num} {s : List UInt8} {l : List Vl} {m : List Js.Mem} (h : Wide (.mk k b n s l m)) : l.length ≤ 1000000 ∧ ∀ v ∈ l, (Sh.strOf v).length ≤ 1000000 := by
  refine ⟨?_, fun v hv => ?_⟩
  · have h1 := h.2.1
    have h2 : l.length ≤ sizeL l := sizeL_len l
    simp only [Vl.size] at h1
    omega
  · have h1 := h.2.2
    simp only [Vl.slim] at h1
    have h2 := (slimL_iff 1000000 l).1 h1.2.2.1 v hv
    obtain ⟨k', b', n', s', l', m'⟩ := v
    simp only [Vl.slim] at h2
    show s'.length ≤ _
    omega
theorem Sh.isType_row {b : Bool} {n : Nm.Num} {s : List UInt8} {l : List Vl} {m : List Js.Mem} : Sh.isType (.mk 4 b n s l m) = (decide (0 < l.length) && Sh.namesL l && Sh.textsL l) := by
  have e : Sh.isName (.mk 4 b n s l m) = false := by unfold Sh.isName; simp [Sh.kindOf]
  simp only [Sh.isType, e, Bool.or_false]
  simp [Bool.and_comm, Bool.and_assoc, Bool.and_left_comm]
theorem Sh.isType_one {k : Int} {b : Bool} {n : Nm.Num} {s : List UInt8} {l : List Vl} {m : List Js.Mem} (h : ¬ k = 4) : Sh.isType (.mk k b n s l m) = Sh.isName (.mk k b n s l m) := by
  simp [Sh.isType, h]

set_option linter.unusedVariables false in
set_option linter.unusedSimpArgs false in
set_option maxRecDepth 100000 in
set_option maxHeartbeats 2000000 in
theorem isTypes_any (v : Vl) (x : Value) (w : World) (hf : Wide v) (hx : v.In w.cell? x) : Calls Tryz.prog 59 #[x] w fun e w' => e = .returned (.bool (Sh.isType v)) ∧ Below w.heap.size w w' := by
  obtain ⟨k, b, n, s, l, m⟩ := v
  have hx0 := hx
  obtain ⟨A, e, B, d, rfl, q1, q2, q3, q4, q5, q6⟩ := In.form hx
  have hb1 := (Below.refl w.heap.size w).alloc (Nat.le_refl _) (.cells #[.int .i64 k, .bool b, .bool n.neg, .string ⟨n.digits.toArray⟩, .int .i64 n.exp, .string ⟨s.toArray⟩, .slice A l.length e, .slice B m.length d] 28)
  have HB := Lib.hid hb1
  have HK := Lib.hid (Blk.new w 28 #[.int .i64 k, .bool b, .bool n.neg, .string ⟨n.digits.toArray⟩, .int .i64 n.exp, .string ⟨s.toArray⟩, .slice A l.length e, .slice B m.length d])
  by_cases h4 : k = 4
  · have HS := Lib.hid (show SlL w.cell? A l from q5)
    have HFL := Lib.hid (Sh.fine_len hf)
    subst h4
    have HF := Lib.hid (Sh.isType_row (b := b) (n := n) (s := s) (l := l) (m := m))
    have HM := Lib.hid q2
    have HL := Lib.hid q1
    unfold maxLen at q2 q4
    clear hx hx0 q5 q6 hb1 hf
    by_cases hl : 0 < l.length
    · have tl : decide ((0 : Int) < (l.length : Int)) = true := decide_eq_true (by omega)
      have tn : decide (0 < l.length) = true := decide_eq_true hl
      rw [decide_eq_true hl] at HF
      have HA := Lib.hid (fun (W : World) (h : Below w.heap.size w W) => allType_any l A e W (HS.out.keep (le_below h)) HL.out HM.out)
      have HU := Lib.hid (fun (W : World) (h : Below w.heap.size w W) => unlike_any l A e W (HS.out.keep (le_below h)) HL.out HM.out HFL.out.1 HFL.out.2)
      obtain ⟨sa, hsa⟩ : ∃ sa, Sh.namesL l = sa := ⟨_, rfl⟩
      obtain ⟨su, hsu⟩ : ∃ su, Sh.textsL l = su := ⟨_, rfl⟩
      rw [hsa] at HA HF
      rw [hsu] at HU HF
      clear hsa hsu hl
      go_enter Tryz.func59, Tryz.ntmps59
      go_upto_region 3 with (fail)
      generalize w.alloc (.cells #[.int .i64 4, .bool b, .bool n.neg, .string ⟨n.digits.toArray⟩, .int .i64 n.exp, .string ⟨s.toArray⟩, .slice A l.length e, .slice B m.length d] 28) = w1 at *
      obtain ⟨a0, a1, a2, a3, a4, a5, a6, a7⟩ := HK.out.eight
      have hkl := HK.out.lt
      go_wp2_with fail
      refine (HA.out _ HB.out).mono ?_
      rintro e2 w2 ⟨rfl, hb2⟩
      have HB2 := Lib.hid (HB.out.trans (hb2.mono HB.out.size))
      have HK2 := Lib.hid (HK.out.on hb2)
      clear hb2 a0 a1 a2 a3 a4 a5 a6 a7 hkl
      obtain ⟨a0, a1, a2, a3, a4, a5, a6, a7⟩ := HK2.out.eight
      cases sa with
      | true =>
        go_wp2_with fail
        refine (HU.out _ HB2.out).mono ?_
        rintro e3 w3 ⟨rfl, hb3⟩
        have HB3 := Lib.hid (HB2.out.trans (hb3.mono HB2.out.size))
        clear hb3
        go_wp2_with fail
        go_ret
        exact ⟨by rw [HF.out]; simp, HB3.out⟩
      | false =>
        go_wp2_with fail
        go_ret
        exact ⟨by rw [HF.out]; simp, HB2.out⟩
    · have tl : decide ((0 : Int) < (l.length : Int)) = false := decide_eq_false (by omega)
      have tn : decide (0 < l.length) = false := decide_eq_false hl
      rw [decide_eq_false hl] at HF
      clear hl
      go_enter Tryz.func59, Tryz.ntmps59
      go_wp2_with fail
      go_ret
      exact ⟨by rw [HF.out]; simp, HB.out⟩
  · have t4 : (k == 4) = false := by simpa using h4
    have t4' : (k != 4) = true := by simpa using h4
    have HF := Lib.hid (Sh.isType_one (b := b) (n := n) (s := s) (l := l) (m := m) h4)
    have HC := Lib.hid (isType_any (.mk k b n s l m) _ (w.alloc (.cells #[.int .i64 k, .bool b, .bool n.neg, .string ⟨n.digits.toArray⟩, .int .i64 n.exp, .string ⟨s.toArray⟩, .slice A l.length e, .slice B m.length d] 28)) (In.keep (le_below hb1) _ _ hx0))
    clear hx hx0 q5 q6 hb1 hf h4
    go_enter Tryz.func59, Tryz.ntmps59
    go_upto_region 2 with (fail)
    generalize w.alloc (.cells #[.int .i64 k, .bool b, .bool n.neg, .string ⟨n.digits.toArray⟩, .int .i64 n.exp, .string ⟨s.toArray⟩, .slice A l.length e, .slice B m.length d] 28) = w1 at *
    obtain ⟨a0, a1, a2, a3, a4, a5, a6, a7⟩ := HK.out.eight
    have hkl := HK.out.lt
    go_wp2_with fail
    refine HC.out.mono ?_
    rintro e2 w2 ⟨rfl, hb2⟩
    have HB2 := Lib.hid (HB.out.trans (hb2.mono HB.out.size))
    clear hb2
    go_wp2_with fail
    go_ret
    exact ⟨by rw [HF.out]; rfl, HB2.out⟩

set_option linter.unusedVariables false in
set_option linter.unusedSimpArgs false in
set_option maxRecDepth 100000 in
set_option maxHeartbeats 2000000 in
theorem check_type (nm : List UInt8) (hn : nm = [116, 121, 112, 101]) (k : Int) (b : Bool) (n : Nm.Num) (s : List UInt8) (l : List Vl) (m : List Js.Mem) (A : Option Addr) (e : Nat) (B : Option Addr) (d : Nat) (w : World) (hx : (Vl.mk k b n s l m).In w.cell? (.agg #[.int .i64 k, .bool b, .bool n.neg, .string ⟨n.digits.toArray⟩, .int .i64 n.exp, .string ⟨s.toArray⟩, .slice A l.length e, .slice B m.length d])) (hT : Tab w) (hf : Wide (.mk k b n s l m)) (q1 : l.length ≤ e) (q2 : e ≤ maxLen) (q3 : m.length ≤ d) (q4 : d ≤ maxLen) (q5 : SlL w.cell? A l) (q6 : SlM w.cell? B m) :
    Calls Tryz.prog 43 #[.string ⟨nm.toArray⟩, .agg #[.int .i64 k, .bool b, .bool n.neg, .string ⟨n.digits.toArray⟩, .int .i64 n.exp, .string ⟨s.toArray⟩, .slice A l.length e, .slice B m.length d]] w fun e w' => e = .returned (errV (Sh.shape nm (.mk k b n s l m))) ∧ Below w.heap.size w w' := by
  have HQ := Lib.hid (show Sh.kw nm = 1 by rcases hn with rfl <;> decide)
  have hb1 := (Below.refl w.heap.size w).alloc (Nat.le_refl _) (.cells #[.int .i64 k, .bool b, .bool n.neg, .string ⟨n.digits.toArray⟩, .int .i64 n.exp, .string ⟨s.toArray⟩, .slice A l.length e, .slice B m.length d] 28)
  have HB := Lib.hid hb1
  have HK := Lib.hid (Blk.new w 28 #[.int .i64 k, .bool b, .bool n.neg, .string ⟨n.digits.toArray⟩, .int .i64 n.exp, .string ⟨s.toArray⟩, .slice A l.length e, .slice B m.length d])
  subst hn
  obtain ⟨sb, hsb⟩ : ∃ sb, Sh.okOf 1 (.mk k b n s l m) = sb := ⟨_, rfl⟩
  have HOK := Lib.hid (show sb = true → Sh.shape _ (.mk k b n s l m) = 0 from fun h => Sh.shape_ok HQ.out (by decide) (by rw [hsb, h]))
  have HNO := Lib.hid (show sb = false → Sh.shape _ (.mk k b n s l m) = 11 from fun h => Sh.shape_no HQ.out (by decide) (by rw [hsb, h]))
  have HC := Lib.hid (fun (W : World) (h : Below w.heap.size w W) => isTypes_any (.mk k b n s l m) _ W hf (In.keep (le_below h) _ _ hx))
  rw [show Sh.isType (.mk k b n s l m) = sb from hsb] at HC
  clear hx hT hf q5 q6 hb1 hsb
  unfold maxLen at q2 q4
  go_enter Tryz.func43, Tryz.ntmps43
  go_upto_region 5 with (fail)
  generalize w.alloc (.cells #[.int .i64 k, .bool b, .bool n.neg, .string ⟨n.digits.toArray⟩, .int .i64 n.exp, .string ⟨s.toArray⟩, .slice A l.length e, .slice B m.length d] 28) = w1 at *
  obtain ⟨a0, a1, a2, a3, a4, a5, a6, a7⟩ := HK.out.eight
  have hkl := HK.out.lt
  go_wp2_with fail
  refine (HC.out _ HB.out).mono ?_
  rintro e2 w2 ⟨rfl, hb2⟩
  have HB2 := Lib.hid (HB.out.trans (hb2.mono HB.out.size))
  clear hb2 a0 a1 a2 a3 a4 a5 a6 a7 hkl
  cases sb with
  | true =>
    go_wp2_with fail
    go_ret
    exact ⟨by rw [HOK.out (by simp)]; rfl, HB2.out⟩
  | false =>
    go_wp2_with fail
    go_ret
    exact ⟨by rw [HNO.out (by simp)]; rfl, HB2.out⟩

set_option linter.unusedVariables false in
set_option linter.unusedSimpArgs false in
set_option maxRecDepth 100000 in
set_option maxHeartbeats 2000000 in
theorem check_enum (nm : List UInt8) (hn : nm = [101, 110, 117, 109]) (k : Int) (b : Bool) (n : Nm.Num) (s : List UInt8) (l : List Vl) (m : List Js.Mem) (A : Option Addr) (e : Nat) (B : Option Addr) (d : Nat) (w : World) (hx : (Vl.mk k b n s l m).In w.cell? (.agg #[.int .i64 k, .bool b, .bool n.neg, .string ⟨n.digits.toArray⟩, .int .i64 n.exp, .string ⟨s.toArray⟩, .slice A l.length e, .slice B m.length d])) (hT : Tab w) (hf : Wide (.mk k b n s l m)) (q1 : l.length ≤ e) (q2 : e ≤ maxLen) (q3 : m.length ≤ d) (q4 : d ≤ maxLen) (q5 : SlL w.cell? A l) (q6 : SlM w.cell? B m) :
    Calls Tryz.prog 43 #[.string ⟨nm.toArray⟩, .agg #[.int .i64 k, .bool b, .bool n.neg, .string ⟨n.digits.toArray⟩, .int .i64 n.exp, .string ⟨s.toArray⟩, .slice A l.length e, .slice B m.length d]] w fun e w' => e = .returned (errV (Sh.shape nm (.mk k b n s l m))) ∧ Below w.heap.size w w' := by
  have HQ := Lib.hid (show Sh.kw nm = 2 by rcases hn with rfl <;> decide)
  have hb1 := (Below.refl w.heap.size w).alloc (Nat.le_refl _) (.cells #[.int .i64 k, .bool b, .bool n.neg, .string ⟨n.digits.toArray⟩, .int .i64 n.exp, .string ⟨s.toArray⟩, .slice A l.length e, .slice B m.length d] 28)
  have HB := Lib.hid hb1
  have HK := Lib.hid (Blk.new w 28 #[.int .i64 k, .bool b, .bool n.neg, .string ⟨n.digits.toArray⟩, .int .i64 n.exp, .string ⟨s.toArray⟩, .slice A l.length e, .slice B m.length d])
  subst hn
  clear hx hT hf q5 q6 hb1
  unfold maxLen at q2 q4
  by_cases h4 : k = 4
  · have t4 : (k == 4) = true := by simpa using h4
    by_cases hl : 0 < l.length
    · have tl : decide ((0 : Int) < (l.length : Int)) = true := decide_eq_true (by omega)
      have tn : decide (0 < l.length) = true := decide_eq_true hl
      have HF := Lib.hid (Sh.shape_ok (v := (.mk k b n s l m)) HQ.out (by decide) (by simp only [Sh.okOf, decide_eq_true h4, decide_eq_true hl]; rfl))
      clear h4 hl
      go_enter Tryz.func43, Tryz.ntmps43
      go_wp2_with fail
      go_ret
      exact ⟨by rw [HF.out]; rfl, HB.out⟩
    · have tl : decide ((0 : Int) < (l.length : Int)) = false := decide_eq_false (by omega)
      have tn : decide (0 < l.length) = false := decide_eq_false hl
      have HF := Lib.hid (Sh.shape_no (v := (.mk k b n s l m)) HQ.out (by decide) (by simp only [Sh.okOf, decide_eq_false hl, Bool.and_false]))
      clear h4 hl
      go_enter Tryz.func43, Tryz.ntmps43
      go_wp2_with fail
      go_ret
      exact ⟨by rw [HF.out]; rfl, HB.out⟩
  · have t4 : (k == 4) = false := by simpa using h4
    have HF := Lib.hid (Sh.shape_no (v := (.mk k b n s l m)) HQ.out (by decide) (by simp only [Sh.okOf, decide_eq_false h4, Bool.false_and]))
    clear h4
    go_enter Tryz.func43, Tryz.ntmps43
    go_wp2_with fail
    go_ret
    exact ⟨by rw [HF.out]; rfl, HB.out⟩

set_option linter.unusedVariables false in
set_option linter.unusedSimpArgs false in
set_option maxRecDepth 100000 in
set_option maxHeartbeats 2000000 in
theorem check_const (nm : List UInt8) (hn : nm = [99, 111, 110, 115, 116]) (k : Int) (b : Bool) (n : Nm.Num) (s : List UInt8) (l : List Vl) (m : List Js.Mem) (A : Option Addr) (e : Nat) (B : Option Addr) (d : Nat) (w : World) (hx : (Vl.mk k b n s l m).In w.cell? (.agg #[.int .i64 k, .bool b, .bool n.neg, .string ⟨n.digits.toArray⟩, .int .i64 n.exp, .string ⟨s.toArray⟩, .slice A l.length e, .slice B m.length d])) (hT : Tab w) (hf : Wide (.mk k b n s l m)) (q1 : l.length ≤ e) (q2 : e ≤ maxLen) (q3 : m.length ≤ d) (q4 : d ≤ maxLen) (q5 : SlL w.cell? A l) (q6 : SlM w.cell? B m) :
    Calls Tryz.prog 43 #[.string ⟨nm.toArray⟩, .agg #[.int .i64 k, .bool b, .bool n.neg, .string ⟨n.digits.toArray⟩, .int .i64 n.exp, .string ⟨s.toArray⟩, .slice A l.length e, .slice B m.length d]] w fun e w' => e = .returned (errV (Sh.shape nm (.mk k b n s l m))) ∧ Below w.heap.size w w' := by
  have HQ := Lib.hid (show Sh.kw nm = 3 by rcases hn with rfl <;> decide)
  have hb1 := (Below.refl w.heap.size w).alloc (Nat.le_refl _) (.cells #[.int .i64 k, .bool b, .bool n.neg, .string ⟨n.digits.toArray⟩, .int .i64 n.exp, .string ⟨s.toArray⟩, .slice A l.length e, .slice B m.length d] 28)
  have HB := Lib.hid hb1
  have HK := Lib.hid (Blk.new w 28 #[.int .i64 k, .bool b, .bool n.neg, .string ⟨n.digits.toArray⟩, .int .i64 n.exp, .string ⟨s.toArray⟩, .slice A l.length e, .slice B m.length d])
  subst hn
  clear hx hT hf q5 q6 hb1
  unfold maxLen at q2 q4
  have HF := Lib.hid (Sh.shape_ok (v := (.mk k b n s l m)) HQ.out (by decide) (rfl))
  go_enter Tryz.func43, Tryz.ntmps43
  go_wp2_with fail
  go_ret
  exact ⟨by rw [HF.out]; rfl, HB.out⟩

set_option linter.unusedVariables false in
set_option linter.unusedSimpArgs false in
set_option maxRecDepth 100000 in
set_option maxHeartbeats 2000000 in
theorem check_number (nm : List UInt8) (hn : nm = [109, 105, 110, 105, 109, 117, 109] ∨ nm = [109, 97, 120, 105, 109, 117, 109]) (k : Int) (b : Bool) (n : Nm.Num) (s : List UInt8) (l : List Vl) (m : List Js.Mem) (A : Option Addr) (e : Nat) (B : Option Addr) (d : Nat) (w : World) (hx : (Vl.mk k b n s l m).In w.cell? (.agg #[.int .i64 k, .bool b, .bool n.neg, .string ⟨n.digits.toArray⟩, .int .i64 n.exp, .string ⟨s.toArray⟩, .slice A l.length e, .slice B m.length d])) (hT : Tab w) (hf : Wide (.mk k b n s l m)) (q1 : l.length ≤ e) (q2 : e ≤ maxLen) (q3 : m.length ≤ d) (q4 : d ≤ maxLen) (q5 : SlL w.cell? A l) (q6 : SlM w.cell? B m) :
    Calls Tryz.prog 43 #[.string ⟨nm.toArray⟩, .agg #[.int .i64 k, .bool b, .bool n.neg, .string ⟨n.digits.toArray⟩, .int .i64 n.exp, .string ⟨s.toArray⟩, .slice A l.length e, .slice B m.length d]] w fun e w' => e = .returned (errV (Sh.shape nm (.mk k b n s l m))) ∧ Below w.heap.size w w' := by
  have HQ := Lib.hid (show Sh.kw nm = 4 by rcases hn with rfl | rfl <;> decide)
  have hb1 := (Below.refl w.heap.size w).alloc (Nat.le_refl _) (.cells #[.int .i64 k, .bool b, .bool n.neg, .string ⟨n.digits.toArray⟩, .int .i64 n.exp, .string ⟨s.toArray⟩, .slice A l.length e, .slice B m.length d] 28)
  have HB := Lib.hid hb1
  have HK := Lib.hid (Blk.new w 28 #[.int .i64 k, .bool b, .bool n.neg, .string ⟨n.digits.toArray⟩, .int .i64 n.exp, .string ⟨s.toArray⟩, .slice A l.length e, .slice B m.length d])
  rcases hn with rfl | rfl
  all_goals
    clear hx hT hf q5 q6 hb1
    unfold maxLen at q2 q4
    by_cases hk : k = 2
    · have t1 : (k == 2) = true := by simpa using hk
      have HF := Lib.hid (Sh.shape_ok (v := (.mk k b n s l m)) HQ.out (by decide) (decide_eq_true hk))
      clear hk
      go_enter Tryz.func43, Tryz.ntmps43
      go_wp2_with fail
      go_ret
      exact ⟨by rw [HF.out]; rfl, HB.out⟩
    · have t1 : (k == 2) = false := by simpa using hk
      have HF := Lib.hid (Sh.shape_no (v := (.mk k b n s l m)) HQ.out (by decide) (decide_eq_false hk))
      clear hk
      go_enter Tryz.func43, Tryz.ntmps43
      go_wp2_with fail
      go_ret
      exact ⟨by rw [HF.out]; rfl, HB.out⟩

set_option linter.unusedVariables false in
set_option linter.unusedSimpArgs false in
set_option maxRecDepth 100000 in
set_option maxHeartbeats 2000000 in
theorem check_count (nm : List UInt8) (hn : nm = [109, 105, 110, 76, 101, 110, 103, 116, 104] ∨ nm = [109, 97, 120, 76, 101, 110, 103, 116, 104] ∨ nm = [109, 105, 110, 73, 116, 101, 109, 115] ∨ nm = [109, 97, 120, 73, 116, 101, 109, 115]) (k : Int) (b : Bool) (n : Nm.Num) (s : List UInt8) (l : List Vl) (m : List Js.Mem) (A : Option Addr) (e : Nat) (B : Option Addr) (d : Nat) (w : World) (hx : (Vl.mk k b n s l m).In w.cell? (.agg #[.int .i64 k, .bool b, .bool n.neg, .string ⟨n.digits.toArray⟩, .int .i64 n.exp, .string ⟨s.toArray⟩, .slice A l.length e, .slice B m.length d])) (hT : Tab w) (hf : Wide (.mk k b n s l m)) (q1 : l.length ≤ e) (q2 : e ≤ maxLen) (q3 : m.length ≤ d) (q4 : d ≤ maxLen) (q5 : SlL w.cell? A l) (q6 : SlM w.cell? B m) :
    Calls Tryz.prog 43 #[.string ⟨nm.toArray⟩, .agg #[.int .i64 k, .bool b, .bool n.neg, .string ⟨n.digits.toArray⟩, .int .i64 n.exp, .string ⟨s.toArray⟩, .slice A l.length e, .slice B m.length d]] w fun e w' => e = .returned (errV (Sh.shape nm (.mk k b n s l m))) ∧ Below w.heap.size w w' := by
  have HQ := Lib.hid (show Sh.kw nm = 5 by rcases hn with rfl | rfl | rfl | rfl <;> decide)
  have hb1 := (Below.refl w.heap.size w).alloc (Nat.le_refl _) (.cells #[.int .i64 k, .bool b, .bool n.neg, .string ⟨n.digits.toArray⟩, .int .i64 n.exp, .string ⟨s.toArray⟩, .slice A l.length e, .slice B m.length d] 28)
  have HB := Lib.hid hb1
  have HK := Lib.hid (Blk.new w 28 #[.int .i64 k, .bool b, .bool n.neg, .string ⟨n.digits.toArray⟩, .int .i64 n.exp, .string ⟨s.toArray⟩, .slice A l.length e, .slice B m.length d])
  rcases hn with rfl | rfl | rfl | rfl
  all_goals
    obtain ⟨sb, hsb⟩ : ∃ sb, Sh.okOf 5 (.mk k b n s l m) = sb := ⟨_, rfl⟩
    have HOK := Lib.hid (show sb = true → Sh.shape _ (.mk k b n s l m) = 0 from fun h => Sh.shape_ok HQ.out (by decide) (by rw [hsb, h]))
    have HNO := Lib.hid (show sb = false → Sh.shape _ (.mk k b n s l m) = 11 from fun h => Sh.shape_no HQ.out (by decide) (by rw [hsb, h]))
    have HC := Lib.hid (fun (W : World) (h : Below w.heap.size w W) => isCount_any (.mk k b n s l m) _ W (hT.keep h) hf.1 (In.keep (le_below h) _ _ hx))
    rw [hsb] at HC
    clear hx hT hf q5 q6 hb1 hsb
    unfold maxLen at q2 q4
    go_enter Tryz.func43, Tryz.ntmps43
    go_upto_region 16 with (fail)
    generalize w.alloc (.cells #[.int .i64 k, .bool b, .bool n.neg, .string ⟨n.digits.toArray⟩, .int .i64 n.exp, .string ⟨s.toArray⟩, .slice A l.length e, .slice B m.length d] 28) = w1 at *
    obtain ⟨a0, a1, a2, a3, a4, a5, a6, a7⟩ := HK.out.eight
    have hkl := HK.out.lt
    go_wp2_with fail
    refine (HC.out _ HB.out).mono ?_
    rintro e2 w2 ⟨rfl, hb2⟩
    have HB2 := Lib.hid (HB.out.trans (hb2.mono HB.out.size))
    clear hb2 a0 a1 a2 a3 a4 a5 a6 a7 hkl
    cases sb with
    | true =>
      go_wp2_with fail
      go_ret
      exact ⟨by rw [HOK.out (by simp)]; rfl, HB2.out⟩
    | false =>
      go_wp2_with fail
      go_ret
      exact ⟨by rw [HNO.out (by simp)]; rfl, HB2.out⟩

set_option linter.unusedVariables false in
set_option linter.unusedSimpArgs false in
set_option maxRecDepth 100000 in
set_option maxHeartbeats 2000000 in
theorem check_bool (nm : List UInt8) (hn : nm = [117, 110, 105, 113, 117, 101, 73, 116, 101, 109, 115]) (k : Int) (b : Bool) (n : Nm.Num) (s : List UInt8) (l : List Vl) (m : List Js.Mem) (A : Option Addr) (e : Nat) (B : Option Addr) (d : Nat) (w : World) (hx : (Vl.mk k b n s l m).In w.cell? (.agg #[.int .i64 k, .bool b, .bool n.neg, .string ⟨n.digits.toArray⟩, .int .i64 n.exp, .string ⟨s.toArray⟩, .slice A l.length e, .slice B m.length d])) (hT : Tab w) (hf : Wide (.mk k b n s l m)) (q1 : l.length ≤ e) (q2 : e ≤ maxLen) (q3 : m.length ≤ d) (q4 : d ≤ maxLen) (q5 : SlL w.cell? A l) (q6 : SlM w.cell? B m) :
    Calls Tryz.prog 43 #[.string ⟨nm.toArray⟩, .agg #[.int .i64 k, .bool b, .bool n.neg, .string ⟨n.digits.toArray⟩, .int .i64 n.exp, .string ⟨s.toArray⟩, .slice A l.length e, .slice B m.length d]] w fun e w' => e = .returned (errV (Sh.shape nm (.mk k b n s l m))) ∧ Below w.heap.size w w' := by
  have HQ := Lib.hid (show Sh.kw nm = 6 by rcases hn with rfl <;> decide)
  have hb1 := (Below.refl w.heap.size w).alloc (Nat.le_refl _) (.cells #[.int .i64 k, .bool b, .bool n.neg, .string ⟨n.digits.toArray⟩, .int .i64 n.exp, .string ⟨s.toArray⟩, .slice A l.length e, .slice B m.length d] 28)
  have HB := Lib.hid hb1
  have HK := Lib.hid (Blk.new w 28 #[.int .i64 k, .bool b, .bool n.neg, .string ⟨n.digits.toArray⟩, .int .i64 n.exp, .string ⟨s.toArray⟩, .slice A l.length e, .slice B m.length d])
  subst hn
  clear hx hT hf q5 q6 hb1
  unfold maxLen at q2 q4
  by_cases hk : k = 1
  · have t1 : (k == 1) = true := by simpa using hk
    have HF := Lib.hid (Sh.shape_ok (v := (.mk k b n s l m)) HQ.out (by decide) (decide_eq_true hk))
    clear hk
    go_enter Tryz.func43, Tryz.ntmps43
    go_wp2_with fail
    go_ret
    exact ⟨by rw [HF.out]; rfl, HB.out⟩
  · have t1 : (k == 1) = false := by simpa using hk
    have HF := Lib.hid (Sh.shape_no (v := (.mk k b n s l m)) HQ.out (by decide) (decide_eq_false hk))
    clear hk
    go_enter Tryz.func43, Tryz.ntmps43
    go_wp2_with fail
    go_ret
    exact ⟨by rw [HF.out]; rfl, HB.out⟩

set_option linter.unusedVariables false in
set_option linter.unusedSimpArgs false in
set_option maxRecDepth 100000 in
set_option maxHeartbeats 2000000 in
theorem check_required (nm : List UInt8) (hn : nm = [114, 101, 113, 117, 105, 114, 101, 100]) (k : Int) (b : Bool) (n : Nm.Num) (s : List UInt8) (l : List Vl) (m : List Js.Mem) (A : Option Addr) (e : Nat) (B : Option Addr) (d : Nat) (w : World) (hx : (Vl.mk k b n s l m).In w.cell? (.agg #[.int .i64 k, .bool b, .bool n.neg, .string ⟨n.digits.toArray⟩, .int .i64 n.exp, .string ⟨s.toArray⟩, .slice A l.length e, .slice B m.length d])) (hT : Tab w) (hf : Wide (.mk k b n s l m)) (q1 : l.length ≤ e) (q2 : e ≤ maxLen) (q3 : m.length ≤ d) (q4 : d ≤ maxLen) (q5 : SlL w.cell? A l) (q6 : SlM w.cell? B m) :
    Calls Tryz.prog 43 #[.string ⟨nm.toArray⟩, .agg #[.int .i64 k, .bool b, .bool n.neg, .string ⟨n.digits.toArray⟩, .int .i64 n.exp, .string ⟨s.toArray⟩, .slice A l.length e, .slice B m.length d]] w fun e w' => e = .returned (errV (Sh.shape nm (.mk k b n s l m))) ∧ Below w.heap.size w w' := by
  have HQ := Lib.hid (show Sh.kw nm = 7 by rcases hn with rfl <;> decide)
  have hb1 := (Below.refl w.heap.size w).alloc (Nat.le_refl _) (.cells #[.int .i64 k, .bool b, .bool n.neg, .string ⟨n.digits.toArray⟩, .int .i64 n.exp, .string ⟨s.toArray⟩, .slice A l.length e, .slice B m.length d] 28)
  have HB := Lib.hid hb1
  have HK := Lib.hid (Blk.new w 28 #[.int .i64 k, .bool b, .bool n.neg, .string ⟨n.digits.toArray⟩, .int .i64 n.exp, .string ⟨s.toArray⟩, .slice A l.length e, .slice B m.length d])
  subst hn
  by_cases hk : k = 4
  · have t1 : (k == 4) = true := by simpa using hk
    obtain ⟨sb, hsb⟩ : ∃ sb, Sh.okOf 7 (.mk k b n s l m) = sb := ⟨_, rfl⟩
    have HOK := Lib.hid (show sb = true → Sh.shape _ (.mk k b n s l m) = 0 from fun h => Sh.shape_ok HQ.out (by decide) (by rw [hsb, h]))
    have HNO := Lib.hid (show sb = false → Sh.shape _ (.mk k b n s l m) = 11 from fun h => Sh.shape_no HQ.out (by decide) (by rw [hsb, h]))
    have HFL := Lib.hid (Sh.fine_len hf)
    have HC := Lib.hid (fun (W : World) (h : Below w.heap.size w W) => unlike_any l A e W (q5.keep (le_below h)) q1 q2 HFL.out.1 HFL.out.2)
    rw [show Sh.textsL l = sb by rw [← hsb]; simp [Sh.okOf, Sh.texts, hk]] at HC
    clear hk
    clear hx hT hf q5 q6 hb1 hsb
    unfold maxLen at q2 q4
    go_enter Tryz.func43, Tryz.ntmps43
    go_upto_region 20 with (fail)
    generalize w.alloc (.cells #[.int .i64 k, .bool b, .bool n.neg, .string ⟨n.digits.toArray⟩, .int .i64 n.exp, .string ⟨s.toArray⟩, .slice A l.length e, .slice B m.length d] 28) = w1 at *
    obtain ⟨a0, a1, a2, a3, a4, a5, a6, a7⟩ := HK.out.eight
    have hkl := HK.out.lt
    go_wp2_with fail
    refine (HC.out _ HB.out).mono ?_
    rintro e2 w2 ⟨rfl, hb2⟩
    have HB2 := Lib.hid (HB.out.trans (hb2.mono HB.out.size))
    clear hb2 a0 a1 a2 a3 a4 a5 a6 a7 hkl
    cases sb with
    | true =>
      go_wp2_with fail
      go_ret
      exact ⟨by rw [HOK.out (by simp)]; rfl, HB2.out⟩
    | false =>
      go_wp2_with fail
      go_ret
      exact ⟨by rw [HNO.out (by simp)]; rfl, HB2.out⟩
  · have t1 : (k == 4) = false := by simpa using hk
    have HF := Lib.hid (Sh.shape_no (v := (.mk k b n s l m)) HQ.out (by decide) (by simp [Sh.okOf, Sh.texts, hk]))
    clear hx hT hf q5 q6 hb1
    unfold maxLen at q2 q4
    clear hk
    go_enter Tryz.func43, Tryz.ntmps43
    go_wp2_with fail
    go_ret
    exact ⟨by rw [HF.out]; rfl, HB.out⟩

set_option linter.unusedVariables false in
set_option linter.unusedSimpArgs false in
set_option maxRecDepth 100000 in
set_option maxHeartbeats 2000000 in
theorem check_schema (nm : List UInt8) (hn : nm = [105, 116, 101, 109, 115] ∨ nm = [97, 100, 100, 105, 116, 105, 111, 110, 97, 108, 80, 114, 111, 112, 101, 114, 116, 105, 101, 115] ∨ nm = [110, 111, 116]) (k : Int) (b : Bool) (n : Nm.Num) (s : List UInt8) (l : List Vl) (m : List Js.Mem) (A : Option Addr) (e : Nat) (B : Option Addr) (d : Nat) (w : World) (hx : (Vl.mk k b n s l m).In w.cell? (.agg #[.int .i64 k, .bool b, .bool n.neg, .string ⟨n.digits.toArray⟩, .int .i64 n.exp, .string ⟨s.toArray⟩, .slice A l.length e, .slice B m.length d])) (hT : Tab w) (hf : Wide (.mk k b n s l m)) (q1 : l.length ≤ e) (q2 : e ≤ maxLen) (q3 : m.length ≤ d) (q4 : d ≤ maxLen) (q5 : SlL w.cell? A l) (q6 : SlM w.cell? B m) :
    Calls Tryz.prog 43 #[.string ⟨nm.toArray⟩, .agg #[.int .i64 k, .bool b, .bool n.neg, .string ⟨n.digits.toArray⟩, .int .i64 n.exp, .string ⟨s.toArray⟩, .slice A l.length e, .slice B m.length d]] w fun e w' => e = .returned (errV (Sh.shape nm (.mk k b n s l m))) ∧ Below w.heap.size w w' := by
  have HQ := Lib.hid (show Sh.kw nm = 8 by rcases hn with rfl | rfl | rfl <;> decide)
  have hb1 := (Below.refl w.heap.size w).alloc (Nat.le_refl _) (.cells #[.int .i64 k, .bool b, .bool n.neg, .string ⟨n.digits.toArray⟩, .int .i64 n.exp, .string ⟨s.toArray⟩, .slice A l.length e, .slice B m.length d] 28)
  have HB := Lib.hid hb1
  have HK := Lib.hid (Blk.new w 28 #[.int .i64 k, .bool b, .bool n.neg, .string ⟨n.digits.toArray⟩, .int .i64 n.exp, .string ⟨s.toArray⟩, .slice A l.length e, .slice B m.length d])
  rcases hn with rfl | rfl | rfl
  all_goals
    obtain ⟨sb, hsb⟩ : ∃ sb, Sh.okOf 8 (.mk k b n s l m) = sb := ⟨_, rfl⟩
    have HOK := Lib.hid (show sb = true → Sh.shape _ (.mk k b n s l m) = 0 from fun h => Sh.shape_ok HQ.out (by decide) (by rw [hsb, h]))
    have HNO := Lib.hid (show sb = false → Sh.shape _ (.mk k b n s l m) = 11 from fun h => Sh.shape_no HQ.out (by decide) (by rw [hsb, h]))
    have HC := Lib.hid (fun (W : World) (h : Below w.heap.size w W) => isSchema_any (.mk k b n s l m) _ W (In.keep (le_below h) _ _ hx))
    rw [show Sh.isSch (.mk k b n s l m) = sb from hsb] at HC
    clear hx hT hf q5 q6 hb1 hsb
    unfold maxLen at q2 q4
    go_enter Tryz.func43, Tryz.ntmps43
    go_upto_region 24 with (fail)
    generalize w.alloc (.cells #[.int .i64 k, .bool b, .bool n.neg, .string ⟨n.digits.toArray⟩, .int .i64 n.exp, .string ⟨s.toArray⟩, .slice A l.length e, .slice B m.length d] 28) = w1 at *
    obtain ⟨a0, a1, a2, a3, a4, a5, a6, a7⟩ := HK.out.eight
    have hkl := HK.out.lt
    go_wp2_with fail
    refine (HC.out _ HB.out).mono ?_
    rintro e2 w2 ⟨rfl, hb2⟩
    have HB2 := Lib.hid (HB.out.trans (hb2.mono HB.out.size))
    clear hb2 a0 a1 a2 a3 a4 a5 a6 a7 hkl
    cases sb with
    | true =>
      go_wp2_with fail
      go_ret
      exact ⟨by rw [HOK.out (by simp)]; rfl, HB2.out⟩
    | false =>
      go_wp2_with fail
      go_ret
      exact ⟨by rw [HNO.out (by simp)]; rfl, HB2.out⟩

set_option linter.unusedVariables false in
set_option linter.unusedSimpArgs false in
set_option maxRecDepth 100000 in
set_option maxHeartbeats 2000000 in
theorem check_props (nm : List UInt8) (hn : nm = [112, 114, 111, 112, 101, 114, 116, 105, 101, 115] ∨ nm = [36, 100, 101, 102, 115]) (k : Int) (b : Bool) (n : Nm.Num) (s : List UInt8) (l : List Vl) (m : List Js.Mem) (A : Option Addr) (e : Nat) (B : Option Addr) (d : Nat) (w : World) (hx : (Vl.mk k b n s l m).In w.cell? (.agg #[.int .i64 k, .bool b, .bool n.neg, .string ⟨n.digits.toArray⟩, .int .i64 n.exp, .string ⟨s.toArray⟩, .slice A l.length e, .slice B m.length d])) (hT : Tab w) (hf : Wide (.mk k b n s l m)) (q1 : l.length ≤ e) (q2 : e ≤ maxLen) (q3 : m.length ≤ d) (q4 : d ≤ maxLen) (q5 : SlL w.cell? A l) (q6 : SlM w.cell? B m) :
    Calls Tryz.prog 43 #[.string ⟨nm.toArray⟩, .agg #[.int .i64 k, .bool b, .bool n.neg, .string ⟨n.digits.toArray⟩, .int .i64 n.exp, .string ⟨s.toArray⟩, .slice A l.length e, .slice B m.length d]] w fun e w' => e = .returned (errV (Sh.shape nm (.mk k b n s l m))) ∧ Below w.heap.size w w' := by
  have HQ := Lib.hid (show Sh.kw nm = 9 by rcases hn with rfl | rfl <;> decide)
  have hb1 := (Below.refl w.heap.size w).alloc (Nat.le_refl _) (.cells #[.int .i64 k, .bool b, .bool n.neg, .string ⟨n.digits.toArray⟩, .int .i64 n.exp, .string ⟨s.toArray⟩, .slice A l.length e, .slice B m.length d] 28)
  have HB := Lib.hid hb1
  have HK := Lib.hid (Blk.new w 28 #[.int .i64 k, .bool b, .bool n.neg, .string ⟨n.digits.toArray⟩, .int .i64 n.exp, .string ⟨s.toArray⟩, .slice A l.length e, .slice B m.length d])
  rcases hn with rfl | rfl
  all_goals
    by_cases hk : k = 5
    · have t1 : (k == 5) = true := by simpa using hk
      obtain ⟨sb, hsb⟩ : ∃ sb, Sh.okOf 9 (.mk k b n s l m) = sb := ⟨_, rfl⟩
      have HOK := Lib.hid (show sb = true → Sh.shape _ (.mk k b n s l m) = 0 from fun h => Sh.shape_ok HQ.out (by decide) (by rw [hsb, h]))
      have HNO := Lib.hid (show sb = false → Sh.shape _ (.mk k b n s l m) = 11 from fun h => Sh.shape_no HQ.out (by decide) (by rw [hsb, h]))
      have HC := Lib.hid (fun (W : World) (h : Below w.heap.size w W) => haveSchemas_any m B d W (q6.keep (le_below h)) q3 q4)
      rw [show Sh.allM m = sb by rw [← hsb]; simp [Sh.okOf, hk]] at HC
      clear hk
      clear hx hT hf q5 q6 hb1 hsb
      unfold maxLen at q2 q4
      go_enter Tryz.func43, Tryz.ntmps43
      go_upto_region 27 with (fail)
      generalize w.alloc (.cells #[.int .i64 k, .bool b, .bool n.neg, .string ⟨n.digits.toArray⟩, .int .i64 n.exp, .string ⟨s.toArray⟩, .slice A l.length e, .slice B m.length d] 28) = w1 at *
      obtain ⟨a0, a1, a2, a3, a4, a5, a6, a7⟩ := HK.out.eight
      have hkl := HK.out.lt
      go_wp2_with fail
      refine (HC.out _ HB.out).mono ?_
      rintro e2 w2 ⟨rfl, hb2⟩
      have HB2 := Lib.hid (HB.out.trans (hb2.mono HB.out.size))
      clear hb2 a0 a1 a2 a3 a4 a5 a6 a7 hkl
      cases sb with
      | true =>
        go_wp2_with fail
        go_ret
        exact ⟨by rw [HOK.out (by simp)]; rfl, HB2.out⟩
      | false =>
        go_wp2_with fail
        go_ret
        exact ⟨by rw [HNO.out (by simp)]; rfl, HB2.out⟩
    · have t1 : (k == 5) = false := by simpa using hk
      have HF := Lib.hid (Sh.shape_no (v := (.mk k b n s l m)) HQ.out (by decide) (by simp [Sh.okOf, hk]))
      clear hx hT hf q5 q6 hb1
      unfold maxLen at q2 q4
      clear hk
      go_enter Tryz.func43, Tryz.ntmps43
      go_wp2_with fail
      go_ret
      exact ⟨by rw [HF.out]; rfl, HB.out⟩

set_option linter.unusedVariables false in
set_option linter.unusedSimpArgs false in
set_option maxRecDepth 100000 in
set_option maxHeartbeats 2000000 in
theorem check_listof (nm : List UInt8) (hn : nm = [97, 108, 108, 79, 102] ∨ nm = [97, 110, 121, 79, 102] ∨ nm = [111, 110, 101, 79, 102]) (k : Int) (b : Bool) (n : Nm.Num) (s : List UInt8) (l : List Vl) (m : List Js.Mem) (A : Option Addr) (e : Nat) (B : Option Addr) (d : Nat) (w : World) (hx : (Vl.mk k b n s l m).In w.cell? (.agg #[.int .i64 k, .bool b, .bool n.neg, .string ⟨n.digits.toArray⟩, .int .i64 n.exp, .string ⟨s.toArray⟩, .slice A l.length e, .slice B m.length d])) (hT : Tab w) (hf : Wide (.mk k b n s l m)) (q1 : l.length ≤ e) (q2 : e ≤ maxLen) (q3 : m.length ≤ d) (q4 : d ≤ maxLen) (q5 : SlL w.cell? A l) (q6 : SlM w.cell? B m) :
    Calls Tryz.prog 43 #[.string ⟨nm.toArray⟩, .agg #[.int .i64 k, .bool b, .bool n.neg, .string ⟨n.digits.toArray⟩, .int .i64 n.exp, .string ⟨s.toArray⟩, .slice A l.length e, .slice B m.length d]] w fun e w' => e = .returned (errV (Sh.shape nm (.mk k b n s l m))) ∧ Below w.heap.size w w' := by
  have HQ := Lib.hid (show Sh.kw nm = 10 by rcases hn with rfl | rfl | rfl <;> decide)
  have hb1 := (Below.refl w.heap.size w).alloc (Nat.le_refl _) (.cells #[.int .i64 k, .bool b, .bool n.neg, .string ⟨n.digits.toArray⟩, .int .i64 n.exp, .string ⟨s.toArray⟩, .slice A l.length e, .slice B m.length d] 28)
  have HB := Lib.hid hb1
  have HK := Lib.hid (Blk.new w 28 #[.int .i64 k, .bool b, .bool n.neg, .string ⟨n.digits.toArray⟩, .int .i64 n.exp, .string ⟨s.toArray⟩, .slice A l.length e, .slice B m.length d])
  rcases hn with rfl | rfl | rfl
  all_goals
    by_cases hk : k = 4
    · have t1 : (k == 4) = true := by simpa using hk
      by_cases hl : 0 < l.length
      · have tl : decide ((0 : Int) < (l.length : Int)) = true := decide_eq_true (by omega)
        have tn : decide (0 < l.length) = true := decide_eq_true hl
        obtain ⟨sb, hsb⟩ : ∃ sb, Sh.okOf 10 (.mk k b n s l m) = sb := ⟨_, rfl⟩
        have HOK := Lib.hid (show sb = true → Sh.shape _ (.mk k b n s l m) = 0 from fun h => Sh.shape_ok HQ.out (by decide) (by rw [hsb, h]))
        have HNO := Lib.hid (show sb = false → Sh.shape _ (.mk k b n s l m) = 11 from fun h => Sh.shape_no HQ.out (by decide) (by rw [hsb, h]))
        have HC := Lib.hid (fun (W : World) (h : Below w.heap.size w W) => allSchema_any l A e W (q5.keep (le_below h)) q1 q2)
        rw [show Sh.allL l = sb by rw [← hsb]; simp [Sh.okOf, hk, hl]] at HC
        clear hk hl
        clear hx hT hf q5 q6 hb1 hsb
        unfold maxLen at q2 q4
        go_enter Tryz.func43, Tryz.ntmps43
        go_upto_region 31 with (fail)
        generalize w.alloc (.cells #[.int .i64 k, .bool b, .bool n.neg, .string ⟨n.digits.toArray⟩, .int .i64 n.exp, .string ⟨s.toArray⟩, .slice A l.length e, .slice B m.length d] 28) = w1 at *
        obtain ⟨a0, a1, a2, a3, a4, a5, a6, a7⟩ := HK.out.eight
        have hkl := HK.out.lt
        go_wp2_with fail
        refine (HC.out _ HB.out).mono ?_
        rintro e2 w2 ⟨rfl, hb2⟩
        have HB2 := Lib.hid (HB.out.trans (hb2.mono HB.out.size))
        clear hb2 a0 a1 a2 a3 a4 a5 a6 a7 hkl
        cases sb with
        | true =>
          go_wp2_with fail
          go_ret
          exact ⟨by rw [HOK.out (by simp)]; rfl, HB2.out⟩
        | false =>
          go_wp2_with fail
          go_ret
          exact ⟨by rw [HNO.out (by simp)]; rfl, HB2.out⟩
      · have tl : decide ((0 : Int) < (l.length : Int)) = false := decide_eq_false (by omega)
        have tn : decide (0 < l.length) = false := decide_eq_false hl
        have HF := Lib.hid (Sh.shape_no (v := (.mk k b n s l m)) HQ.out (by decide) (by simp only [Sh.okOf, decide_eq_false hl, Bool.and_false, Bool.false_and]))
        clear hx hT hf q5 q6 hb1
        unfold maxLen at q2 q4
        clear hk hl
        go_enter Tryz.func43, Tryz.ntmps43
        go_wp2_with fail
        go_ret
        exact ⟨by rw [HF.out]; rfl, HB.out⟩
    · have t1 : (k == 4) = false := by simpa using hk
      have HF := Lib.hid (Sh.shape_no (v := (.mk k b n s l m)) HQ.out (by decide) (by simp only [Sh.okOf, decide_eq_false hk, Bool.false_and]))
      clear hx hT hf q5 q6 hb1
      unfold maxLen at q2 q4
      clear hk
      go_enter Tryz.func43, Tryz.ntmps43
      go_wp2_with fail
      go_ret
      exact ⟨by rw [HF.out]; rfl, HB.out⟩

set_option linter.unusedVariables false in
set_option linter.unusedSimpArgs false in
set_option maxRecDepth 100000 in
set_option maxHeartbeats 2000000 in
theorem check_ref (nm : List UInt8) (hn : nm = [36, 114, 101, 102]) (k : Int) (b : Bool) (n : Nm.Num) (s : List UInt8) (l : List Vl) (m : List Js.Mem) (A : Option Addr) (e : Nat) (B : Option Addr) (d : Nat) (w : World) (hx : (Vl.mk k b n s l m).In w.cell? (.agg #[.int .i64 k, .bool b, .bool n.neg, .string ⟨n.digits.toArray⟩, .int .i64 n.exp, .string ⟨s.toArray⟩, .slice A l.length e, .slice B m.length d])) (hT : Tab w) (hf : Wide (.mk k b n s l m)) (q1 : l.length ≤ e) (q2 : e ≤ maxLen) (q3 : m.length ≤ d) (q4 : d ≤ maxLen) (q5 : SlL w.cell? A l) (q6 : SlM w.cell? B m) :
    Calls Tryz.prog 43 #[.string ⟨nm.toArray⟩, .agg #[.int .i64 k, .bool b, .bool n.neg, .string ⟨n.digits.toArray⟩, .int .i64 n.exp, .string ⟨s.toArray⟩, .slice A l.length e, .slice B m.length d]] w fun e w' => e = .returned (errV (Sh.shape nm (.mk k b n s l m))) ∧ Below w.heap.size w w' := by
  have HQ := Lib.hid (show Sh.kw nm = 11 by rcases hn with rfl <;> decide)
  have hb1 := (Below.refl w.heap.size w).alloc (Nat.le_refl _) (.cells #[.int .i64 k, .bool b, .bool n.neg, .string ⟨n.digits.toArray⟩, .int .i64 n.exp, .string ⟨s.toArray⟩, .slice A l.length e, .slice B m.length d] 28)
  have HB := Lib.hid hb1
  have HK := Lib.hid (Blk.new w 28 #[.int .i64 k, .bool b, .bool n.neg, .string ⟨n.digits.toArray⟩, .int .i64 n.exp, .string ⟨s.toArray⟩, .slice A l.length e, .slice B m.length d])
  subst hn
  clear hx hT hf q5 q6 hb1
  unfold maxLen at q2 q4
  by_cases hk : k = 3
  · have t1 : (k == 3) = true := by simpa using hk
    have HF := Lib.hid (Sh.shape_ok (v := (.mk k b n s l m)) HQ.out (by decide) (decide_eq_true hk))
    clear hk
    go_enter Tryz.func43, Tryz.ntmps43
    go_wp2_with fail
    go_ret
    exact ⟨by rw [HF.out]; rfl, HB.out⟩
  · have t1 : (k == 3) = false := by simpa using hk
    have HF := Lib.hid (Sh.shape_no (v := (.mk k b n s l m)) HQ.out (by decide) (decide_eq_false hk))
    clear hk
    go_enter Tryz.func43, Tryz.ntmps43
    go_wp2_with fail
    go_ret
    exact ⟨by rw [HF.out]; rfl, HB.out⟩

set_option linter.unusedVariables false in
set_option linter.unusedSimpArgs false in
set_option maxRecDepth 100000 in
set_option maxHeartbeats 2000000 in
theorem check_none (nm : List UInt8) (hn : ∀ p ∈ Sh.kws, ¬ p.1 = nm) (k : Int) (b : Bool) (n : Nm.Num) (s : List UInt8) (l : List Vl) (m : List Js.Mem) (A : Option Addr) (e : Nat) (B : Option Addr) (d : Nat) (w : World) :
    Calls Tryz.prog 43 #[.string ⟨nm.toArray⟩, .agg #[.int .i64 k, .bool b, .bool n.neg, .string ⟨n.digits.toArray⟩, .int .i64 n.exp, .string ⟨s.toArray⟩, .slice A l.length e, .slice B m.length d]] w fun e w' => e = .returned (errV (Sh.shape nm (.mk k b n s l m))) ∧ Below w.heap.size w w' := by
  have HF := Lib.hid (show Sh.shape nm (.mk k b n s l m) = 10 by unfold Sh.shape; rw [if_pos (Sh.kw_none hn)])
  have HB := Lib.hid ((Below.refl w.heap.size w).alloc (Nat.le_refl _) (.cells #[.int .i64 k, .bool b, .bool n.neg, .string ⟨n.digits.toArray⟩, .int .i64 n.exp, .string ⟨s.toArray⟩, .slice A l.length e, .slice B m.length d] 28))
  have e0 : (nm == [116, 121, 112, 101]) = false := by have := hn _ (List.getElem_mem (show 0 < Sh.kws.length by decide)); simpa using fun h => this h.symm
  have e1 : (nm == [101, 110, 117, 109]) = false := by have := hn _ (List.getElem_mem (show 1 < Sh.kws.length by decide)); simpa using fun h => this h.symm
  have e2 : (nm == [99, 111, 110, 115, 116]) = false := by have := hn _ (List.getElem_mem (show 2 < Sh.kws.length by decide)); simpa using fun h => this h.symm
  have e3 : (nm == [109, 105, 110, 105, 109, 117, 109]) = false := by have := hn _ (List.getElem_mem (show 3 < Sh.kws.length by decide)); simpa using fun h => this h.symm
  have e4 : (nm == [109, 97, 120, 105, 109, 117, 109]) = false := by have := hn _ (List.getElem_mem (show 4 < Sh.kws.length by decide)); simpa using fun h => this h.symm
  have e5 : (nm == [109, 105, 110, 76, 101, 110, 103, 116, 104]) = false := by have := hn _ (List.getElem_mem (show 5 < Sh.kws.length by decide)); simpa using fun h => this h.symm
  have e6 : (nm == [109, 97, 120, 76, 101, 110, 103, 116, 104]) = false := by have := hn _ (List.getElem_mem (show 6 < Sh.kws.length by decide)); simpa using fun h => this h.symm
  have e7 : (nm == [109, 105, 110, 73, 116, 101, 109, 115]) = false := by have := hn _ (List.getElem_mem (show 7 < Sh.kws.length by decide)); simpa using fun h => this h.symm
  have e8 : (nm == [109, 97, 120, 73, 116, 101, 109, 115]) = false := by have := hn _ (List.getElem_mem (show 8 < Sh.kws.length by decide)); simpa using fun h => this h.symm
  have e9 : (nm == [117, 110, 105, 113, 117, 101, 73, 116, 101, 109, 115]) = false := by have := hn _ (List.getElem_mem (show 9 < Sh.kws.length by decide)); simpa using fun h => this h.symm
  have e10 : (nm == [114, 101, 113, 117, 105, 114, 101, 100]) = false := by have := hn _ (List.getElem_mem (show 10 < Sh.kws.length by decide)); simpa using fun h => this h.symm
  have e11 : (nm == [105, 116, 101, 109, 115]) = false := by have := hn _ (List.getElem_mem (show 11 < Sh.kws.length by decide)); simpa using fun h => this h.symm
  have e12 : (nm == [97, 100, 100, 105, 116, 105, 111, 110, 97, 108, 80, 114, 111, 112, 101, 114, 116, 105, 101, 115]) = false := by have := hn _ (List.getElem_mem (show 12 < Sh.kws.length by decide)); simpa using fun h => this h.symm
  have e13 : (nm == [110, 111, 116]) = false := by have := hn _ (List.getElem_mem (show 13 < Sh.kws.length by decide)); simpa using fun h => this h.symm
  have e14 : (nm == [112, 114, 111, 112, 101, 114, 116, 105, 101, 115]) = false := by have := hn _ (List.getElem_mem (show 14 < Sh.kws.length by decide)); simpa using fun h => this h.symm
  have e15 : (nm == [36, 100, 101, 102, 115]) = false := by have := hn _ (List.getElem_mem (show 15 < Sh.kws.length by decide)); simpa using fun h => this h.symm
  have e16 : (nm == [97, 108, 108, 79, 102]) = false := by have := hn _ (List.getElem_mem (show 16 < Sh.kws.length by decide)); simpa using fun h => this h.symm
  have e17 : (nm == [97, 110, 121, 79, 102]) = false := by have := hn _ (List.getElem_mem (show 17 < Sh.kws.length by decide)); simpa using fun h => this h.symm
  have e18 : (nm == [111, 110, 101, 79, 102]) = false := by have := hn _ (List.getElem_mem (show 18 < Sh.kws.length by decide)); simpa using fun h => this h.symm
  have e19 : (nm == [36, 114, 101, 102]) = false := by have := hn _ (List.getElem_mem (show 19 < Sh.kws.length by decide)); simpa using fun h => this h.symm
  clear hn
  go_enter Tryz.func43, Tryz.ntmps43
  go_wp2_with fail
  go_ret
  exact ⟨by rw [HF.out]; rfl, HB.out⟩

theorem check_wide : CheckW Tab := fun nm v x w hT hf hx => by
  obtain ⟨k, b, n, s, l, m⟩ := v
  have hx0 := hx
  obtain ⟨A, e, B, d, rfl, q1, q2, q3, q4, q5, q6⟩ := In.form hx
  by_cases h_type : nm = [116, 121, 112, 101]
  · exact check_type nm h_type k b n s l m A e B d w hx0 hT hf q1 q2 q3 q4 q5 q6
  by_cases h_enum : nm = [101, 110, 117, 109]
  · exact check_enum nm h_enum k b n s l m A e B d w hx0 hT hf q1 q2 q3 q4 q5 q6
  by_cases h_const : nm = [99, 111, 110, 115, 116]
  · exact check_const nm h_const k b n s l m A e B d w hx0 hT hf q1 q2 q3 q4 q5 q6
  by_cases h_number : nm = [109, 105, 110, 105, 109, 117, 109] ∨ nm = [109, 97, 120, 105, 109, 117, 109]
  · exact check_number nm h_number k b n s l m A e B d w hx0 hT hf q1 q2 q3 q4 q5 q6
  by_cases h_count : nm = [109, 105, 110, 76, 101, 110, 103, 116, 104] ∨ nm = [109, 97, 120, 76, 101, 110, 103, 116, 104] ∨ nm = [109, 105, 110, 73, 116, 101, 109, 115] ∨ nm = [109, 97, 120, 73, 116, 101, 109, 115]
  · exact check_count nm h_count k b n s l m A e B d w hx0 hT hf q1 q2 q3 q4 q5 q6
  by_cases h_bool : nm = [117, 110, 105, 113, 117, 101, 73, 116, 101, 109, 115]
  · exact check_bool nm h_bool k b n s l m A e B d w hx0 hT hf q1 q2 q3 q4 q5 q6
  by_cases h_required : nm = [114, 101, 113, 117, 105, 114, 101, 100]
  · exact check_required nm h_required k b n s l m A e B d w hx0 hT hf q1 q2 q3 q4 q5 q6
  by_cases h_schema : nm = [105, 116, 101, 109, 115] ∨ nm = [97, 100, 100, 105, 116, 105, 111, 110, 97, 108, 80, 114, 111, 112, 101, 114, 116, 105, 101, 115] ∨ nm = [110, 111, 116]
  · exact check_schema nm h_schema k b n s l m A e B d w hx0 hT hf q1 q2 q3 q4 q5 q6
  by_cases h_props : nm = [112, 114, 111, 112, 101, 114, 116, 105, 101, 115] ∨ nm = [36, 100, 101, 102, 115]
  · exact check_props nm h_props k b n s l m A e B d w hx0 hT hf q1 q2 q3 q4 q5 q6
  by_cases h_listof : nm = [97, 108, 108, 79, 102] ∨ nm = [97, 110, 121, 79, 102] ∨ nm = [111, 110, 101, 79, 102]
  · exact check_listof nm h_listof k b n s l m A e B d w hx0 hT hf q1 q2 q3 q4 q5 q6
  by_cases h_ref : nm = [36, 114, 101, 102]
  · exact check_ref nm h_ref k b n s l m A e B d w hx0 hT hf q1 q2 q3 q4 q5 q6
  refine check_none nm (fun p hp he => ?_) k b n s l m A e B d w
  subst he
  simp only [Sh.kws, List.mem_cons, List.not_mem_nil, or_false] at hp
  rcases hp with rfl | rfl | rfl | rfl | rfl | rfl | rfl | rfl | rfl | rfl | rfl | rfl | rfl | rfl | rfl | rfl | rfl | rfl | rfl | rfl
  · exact h_type (by simp)
  · exact h_enum (by simp)
  · exact h_const (by simp)
  · exact h_number (by simp)
  · exact h_number (by simp)
  · exact h_count (by simp)
  · exact h_count (by simp)
  · exact h_count (by simp)
  · exact h_count (by simp)
  · exact h_bool (by simp)
  · exact h_required (by simp)
  · exact h_schema (by simp)
  · exact h_schema (by simp)
  · exact h_schema (by simp)
  · exact h_props (by simp)
  · exact h_props (by simp)
  · exact h_listof (by simp)
  · exact h_listof (by simp)
  · exact h_listof (by simp)
  · exact h_ref (by simp)
end Go.Proofs.YtlhinefalkfjaaaGreatDoor

namespace Go.Proofs.YtlhinefalkfjaaaGreatDoor
open Go.RowKit Js

theorem itoa10_any (j : Nat) (w : World) (hT : Tab w) (h : j ≤ 1000000) : Calls Tryz.prog 80 #[.int .i64 j] w fun e w' => e = .returned (.string ⟨(Lib.decDigits j).toArray⟩) ∧ Below w.heap.size w w' := by
  refine (Tryz.strconv_Itoa (j : Int) (by omega) (by omega) w hT).mono ?_
  rintro e w1 ⟨rfl, k4, os4, rfl⟩
  exact ⟨by rw [Lib.itoa_nonneg], below_grow w k4 os4⟩

def SNew (S : Nat → Prop) (w : World) (b : Nat) : Prop := S b ∨ w.heap.size ≤ b
theorem SNew.le {S : Nat → Prop} {w w' : World} (h : Below w.heap.size w w') (hS : ∀ b, S b → b < w.heap.size) : Cl.le (w.on S) (w'.on (SNew S w)) :=
  on_keep (fun _ hb _ => .inl hb) (fun b hb _ => h.block b (hS b hb))
def KidsS (S : Nat → Prop) (r : List Js.Mem) (w : World) (e : Ending) (w' : World) : Prop :=
  ∃ (A : Option Addr) (cp : Nat), e = .returned (.slice A r.length cp) ∧ SlM (w'.on (SNew S w)) A r ∧ r.length ≤ cp ∧ cp ≤ maxLen ∧ Below w.heap.size w w'
structure Rowing10 (S : Nat → Prop) (w : World) (l : List Vl) (g j : Nat) (cs : List Value) (wr : World) : Prop where
  hj : j ≤ l.length
  blk : Blk wr g 88 cs.toArray
  len : cs.length = l.length * 9
  below : Below w.heap.size w wr
  hg : w.heap.size ≤ g
  items : ∀ (i : Nat) v, i < j → l[i]? = some v → ∃ y : Array Value, y.size = 8 ∧ v.In (w.on S) (.agg y) ∧ cs[i * 9]? = some (.string ⟨(Lib.decDigits i).toArray⟩) ∧ ∀ (k : Nat) u, y[k]? = some u → cs[i * 9 + 1 + k]? = some u
section
variable {S : Nat → Prop} {w : World} {l : List Vl} {g j : Nat} {cs : List Value} {wr w' : World}
theorem Rowing10.on (h : Rowing10 S w l g j cs wr) (hb : Below wr.heap.size wr w') : Rowing10 S w l g j cs w' :=
  ⟨h.hj, h.blk.on hb, h.len, h.below.trans (hb.mono h.below.size), h.hg, h.items⟩
theorem Rowing10.next (h : Rowing10 S w l g j cs wr) (hlt : j < l.length) {y : Array Value} (hys : y.size = 8) (hy : (l[j]'hlt).In (w.on S) (.agg y)) :
    Rowing10 S w l g (j + 1) (putL cs (j * 9) (.string ⟨(Lib.decDigits j).toArray⟩ :: y.toList)) (wr.setCells g (j * 9) (.string ⟨(Lib.decDigits j).toArray⟩ :: y.toList)) := by
  have hyl : (Value.string ⟨(Lib.decDigits j).toArray⟩ :: y.toList).length = 9 := by simp [hys]
  have hcl : j * 9 + 9 ≤ cs.length := by have := h.len; omega
  refine ⟨hlt, h.blk.setCells _, by rw [putL_length]; exact h.len, below_setCells h.hg _ h.below, h.hg, fun i v hi hv => ?_⟩
  by_cases hil : i < j
  · obtain ⟨z, h1, h2, h3, h4⟩ := h.items i v hil hv
    refine ⟨z, h1, h2, ?_, fun k u hu => ?_⟩
    · rw [putL_off _ _ _ (.inl (by omega))]; exact h3
    · have hk : k < 8 := by have := (Array.getElem?_eq_some_iff.1 hu).1; omega
      rw [putL_off _ _ _ (.inl (by omega))]; exact h4 k u hu
  · have hi0 : i = j := by omega
    subst hi0
    rw [List.getElem?_eq_getElem hlt] at hv
    injection hv with hv
    subst hv
    refine ⟨y, hys, hy, ?_, fun k u hu => ?_⟩
    · have := putL_at (.string ⟨(Lib.decDigits i).toArray⟩ :: y.toList) cs (i * 9) (i := 0) (u := .string ⟨(Lib.decDigits i).toArray⟩) (by omega) rfl
      simpa using this
    · have := putL_at (.string ⟨(Lib.decDigits i).toArray⟩ :: y.toList) cs (i * 9) (i := k + 1) (u := u) (by omega) (by simpa using hu)
      rw [show i * 9 + 1 + k = i * 9 + (k + 1) by omega]
      exact this
theorem Rowing10.there (h : Rowing10 S w l g j cs wr) (hlt : j < l.length) : wr.there g (j * 9) 9 := fun k hk => by
  have := h.len
  refine ⟨?_, h.blk.frozen _⟩
  rw [h.blk.cell, List.getElem?_toArray, List.getElem?_eq_getElem (by omega)]; rfl
theorem Rowing10.fin (h : Rowing10 S w l g l.length cs wr) (hS : ∀ b, S b → b < w.heap.size) : SlM (wr.on (SNew S w)) (some ⟨g, 0, none⟩) (Sh.numbered l) := fun i p hi => by
  obtain ⟨v, hv, rfl⟩ := Sh.numbered_get hi
  obtain ⟨y, h1, h2, h3, h4⟩ := h.items i v (List.getElem?_eq_some_iff.1 hv).1 hv
  refine ⟨g, 0, _, rfl, In.keep (SNew.le h.below hS) _ _ h2, on_some.2 ⟨.inr h.hg, ?_⟩, fun k u hu => on_some.2 ⟨.inr h.hg, ?_⟩⟩
  · rw [Nat.zero_add, h.blk.cell, List.getElem?_toArray]; exact h3
  · rw [Nat.zero_add, h.blk.cell, List.getElem?_toArray]; exact h4 k u (by simpa [Value.cells] using hu)
end
def HasBlk10 (g : Nat) (V : Array Value) (W : World) : Prop := Blk W g 28 V

set_option linter.unusedVariables false in
set_option linter.unusedSimpArgs false in
set_option maxRecDepth 100000 in
set_option maxHeartbeats 4000000 in
theorem numbered10_any (S : Nat → Prop) (l : List Vl) (A : Option Addr) (c : Nat) (w : World) (hS : ∀ b, S b → b < w.heap.size) (hT : Tab w) (hs : SlL (w.on S) A l) (hl : l.length ≤ c) (hm : c ≤ maxLen) (hn : l.length ≤ 1000000) :
    Calls Tryz.prog 69 #[.slice A l.length c] w (KidsS S (Sh.numbered l) w) := by
  have HS := Lib.hid hs
  have HT := Lib.hid hT
  have HSB := Lib.hid hS
  unfold maxLen at hm
  obtain ⟨i0, hi0, hz0, hz1, hz2⟩ := infoM'
  have hmk : ∀ W : World, (Instr.makeSlice 26 (.int .i64 (l.length : Int)) (.int .i64 (l.length : Int))).run Tryz.prog W = .ok (.slice (some ⟨W.heap.size, 0, none⟩) l.length l.length) (W.alloc (.cells (madeCells zero9 (l.length * 9)) 88)) := fun W => by
    have := run_make (P := Tryz.prog) W 26 88 i0 (.agg zero9) Tryz.underlying26 hi0 hz0 .i64 .i64 l.length l.length (by omega) (Int.le_refl _) (by rw [hz2]; omega) (by omega)
    rw [hz1] at this
    simp only [Int.toNat_natCast] at this
    exact this
  have HROW := Lib.hid (show Rowing10 S w l w.heap.size 0 (madeCells zero9 (l.length * 9)).toList (w.alloc (.cells (madeCells zero9 (l.length * 9)) 88)) from
    ⟨Nat.zero_le _, by simpa using Blk.new w 88 (madeCells zero9 (l.length * 9)), by rw [Array.length_toList, size_madeCells], (Below.refl _ _).alloc (Nat.le_refl _) _, Nat.le_refl _, fun i v h => absurd h (Nat.not_lt_zero _)⟩)
  clear hs hT hS
  go_enter Tryz.func69, Tryz.ntmps69
  go_upto_region 2 with (fail)
  generalize w.alloc (.cells (madeCells zero9 (l.length * 9)) 88) = w1 at *
  obtain ⟨g, hg⟩ : ∃ g, w.heap.size = g := ⟨_, rfl⟩
  have HROW1 := Lib.hid (show Rowing10 S w l g 0 (madeCells zero9 (l.length * 9)).toList w1 by rw [← hg]; exact HROW.out)
  rw [hg]
  clear HROW hmk hg hi0 hz0 hz1 hz2
  go_wp2_with fail
  go_loopw [11] (fun i wr => ∃ (j : Nat) (cs : List Value), i = .int .i64 j ∧ Rowing10 S w l g j cs wr) (fun i _ => l.length - (intOf i).toNat)
  case atStart => exact ⟨0, _, rfl, HROW1.out⟩
  case round =>
    obtain ⟨j, cs, rfl, hR⟩ := hrel
    have HR := Lib.hid hR
    have hj := hR.hj
    clear hR HROW1
    by_cases hlt : j < l.length
    · obtain ⟨g0, o0, y, rfl, hy, hc⟩ := HS.out j _ (List.getElem?_eq_getElem hlt)
      obtain ⟨y_1, y_2, y_3, y_4, y_5, y_6, y_7, y_8, y_9, y_a, y_b, y_c, rfl⟩ := In.cells hy
      obtain ⟨e0, e1, e2, e3, e4, e5, e6, e7⟩ := ((hc.keep (on_all _ _)).keep (le_below HR.out.below)).eight
      have hgl := World.block_lt_of_cell? _ _ e0
      have HB2 := Lib.hid ((Below.refl wr.heap.size wr).alloc (Nat.le_refl _) (.cells #[.int .i64 y_1, .bool y_2, .bool y_3, .string ⟨y_4.toArray⟩, .int .i64 y_5, .string ⟨y_6.toArray⟩, .slice y_7 y_8 y_9, .slice y_a y_b y_c] 28))
      have HR2 := Lib.hid (HR.out.on HB2.out)
      have HK2 := Lib.hid (show HasBlk10 wr.heap.size #[.int .i64 y_1, .bool y_2, .bool y_3, .string ⟨y_4.toArray⟩, .int .i64 y_5, .string ⟨y_6.toArray⟩, .slice y_7 y_8 y_9, .slice y_a y_b y_c] (wr.alloc (.cells #[.int .i64 y_1, .bool y_2, .bool y_3, .string ⟨y_4.toArray⟩, .int .i64 y_5, .string ⟨y_6.toArray⟩, .slice y_7 y_8 y_9, .slice y_a y_b y_c] 28)) from Blk.new wr 28 #[.int .i64 y_1, .bool y_2, .bool y_3, .string ⟨y_4.toArray⟩, .int .i64 y_5, .string ⟨y_6.toArray⟩, .slice y_7 y_8 y_9, .slice y_a y_b y_c])
      have HGN := Lib.hid (show ¬ wr.heap.size = g by have := HR.out.blk.lt; omega)
      have HY := Lib.hid hy
      have hjj : (j : Int) < (l.length : Int) := by omega
      clear hy hc
      go_upto_region 5 with (fail)
      generalize wr.alloc (.cells #[.int .i64 y_1, .bool y_2, .bool y_3, .string ⟨y_4.toArray⟩, .int .i64 y_5, .string ⟨y_6.toArray⟩, .slice y_7 y_8 y_9, .slice y_a y_b y_c] 28) = w2 at *
      generalize wr.heap.size = g2 at *
      have HIT := Lib.hid (fun (W : World) (h : Below w2.heap.size w2 W) => itoa10_any j W (HT.out.keep (HR2.out.below.trans (h.mono HR2.out.below.size))) (by omega))
      clear e0 e1 e2 e3 e4 e5 e6 e7 hgl
      refine wp_region_held_drew (S := HasBlk10 g2 #[.int .i64 y_1, .bool y_2, .bool y_3, .string ⟨y_4.toArray⟩, .int .i64 y_5, .string ⟨y_6.toArray⟩, .slice y_7 y_8 y_9, .slice y_a y_b y_c]) (by kernel_rfl) (show HasBlk10 g2 _ w2.drew from HK2.out) (fun ht => ?_)
      refine wpAnyH_take (i := 0) (oi := ⟨some _, _, _, _, _, _⟩) (v := (.slice (some ⟨g, 0, none⟩) l.length l.length)) rfl (by kernel_rfl) (by kernel_rfl) (by kernel_rfl) (fun _ _ _ h => h) (Or.inl ⟨by rfl, ?_⟩) ht ?_
      · intro W9 hSw
        go_simp
      try simp only [Act.put, List.setIfInBounds_toArray, List.set_cons_zero, List.set_cons_succ]
      refine wpAnyH_take (i := 1) (oi := ⟨some _, _, _, _, _, _⟩) (v := (.int .i64 j)) rfl (by kernel_rfl) (by kernel_rfl) (by kernel_rfl) (fun _ _ _ h => h) (Or.inl ⟨by rfl, ?_⟩) ht ?_
      · intro W9 hSw
        go_simp
      try simp only [Act.put, List.setIfInBounds_toArray, List.set_cons_zero, List.set_cons_succ]
      refine wpAnyH_take (i := 2) (oi := ⟨some _, _, _, _, _, _⟩) (v := (.int .i64 j)) rfl (by kernel_rfl) (by kernel_rfl) (by kernel_rfl) (fun _ _ _ h => h) (Or.inl ⟨by rfl, ?_⟩) ht ?_
      · intro W9 hSw
        go_simp
      try simp only [Act.put, List.setIfInBounds_toArray, List.set_cons_zero, List.set_cons_succ]
      refine wpAnyH_take (i := 4) (oi := ⟨some _, _, _, _, _, _⟩) (v := (.agg #[.int .i64 y_1, .bool y_2, .bool y_3, .string ⟨y_4.toArray⟩, .int .i64 y_5, .string ⟨y_6.toArray⟩, .slice y_7 y_8 y_9, .slice y_a y_b y_c])) rfl (by kernel_rfl) (by kernel_rfl) (by kernel_rfl) (fun _ _ _ h => h) (Or.inl ⟨by rfl, ?_⟩) ht ?_
      · intro W9 hSw
        obtain ⟨e0, e1, e2, e3, e4, e5, e6, e7⟩ := (show Blk W9 g2 28 _ from hSw).eight
        go_simp
      try simp only [Act.put, List.setIfInBounds_toArray, List.set_cons_zero, List.set_cons_succ]
      refine wpAnyH_ready (rs := [3]) (by kernel_rfl) (by simp) ?_
      refine AllReadyH.cons (o := ⟨some _, _, _, _, _, _⟩) rfl (fun K hK => ?_) AllReadyH.nil
      go_simp
      refine (HIT.out _ (Below.refl _ _).drew).mono ?_
      rintro e3 w3 ⟨rfl, hb3⟩
      have hb23 := (Below.refl w2.heap.size w2).drew.trans (show Below w2.heap.size w2.drew w3 from hb3)
      have hs : HasBlk10 g2 #[.int .i64 y_1, .bool y_2, .bool y_3, .string ⟨y_4.toArray⟩, .int .i64 y_5, .string ⟨y_6.toArray⟩, .slice y_7 y_8 y_9, .slice y_a y_b y_c] w3 := (show Blk w2 g2 28 _ from HK2.out).on hb23
      have HR3 := Lib.hid (HR2.out.on hb23)
      clear hb3 hb23 ht
      go_wp2_with fail
      refine hK.out _ _ hs (fun ht => ?_)
      clear hK K hs
      try simp only [Act.put, List.setIfInBounds_toArray, List.set_cons_zero, List.set_cons_succ]
      refine wpAnyH_take (i := 5) (oi := ⟨some _, _, _, _, _, _⟩) (v := (.agg #[.string ⟨(Lib.decDigits j).toArray⟩, .int .i64 y_1, .bool y_2, .bool y_3, .string ⟨y_4.toArray⟩, .int .i64 y_5, .string ⟨y_6.toArray⟩, .slice y_7 y_8 y_9, .slice y_a y_b y_c])) rfl (by kernel_rfl) (by kernel_rfl) (by kernel_rfl) (fun _ _ _ h => h) (Or.inl ⟨by rfl, ?_⟩) ht ?_
      · intro W9 hSw
        go_simp
      try simp only [Act.put, List.setIfInBounds_toArray, List.set_cons_zero, List.set_cons_succ]
      refine wpAnyH_take (i := 6) (oi := ⟨some _, _, _, _, _, _⟩) (v := (.pointer (some ⟨g, j * 9, none⟩))) rfl (by kernel_rfl) (by kernel_rfl) (by kernel_rfl) (fun _ _ _ h => h) (Or.inl ⟨by rfl, ?_⟩) ht ?_
      · intro W9 hSw
        go_simp
      try simp only [Act.put, List.setIfInBounds_toArray, List.set_cons_zero, List.set_cons_succ]
      have HTH := Lib.hid (HR3.out.there hlt)
      have HNX := HR3.out.next hlt (y := #[.int .i64 y_1, .bool y_2, .bool y_3, .string ⟨y_4.toArray⟩, .int .i64 y_5, .string ⟨y_6.toArray⟩, .slice y_7 y_8 y_9, .slice y_a y_b y_c]) rfl HY.out
      obtain ⟨w5, hw5⟩ : ∃ W, W = w3.setCells g (j * 9) (#[.string ⟨(Lib.decDigits j).toArray⟩, .int .i64 y_1, .bool y_2, .bool y_3, .string ⟨y_4.toArray⟩, .int .i64 y_5, .string ⟨y_6.toArray⟩, .slice y_7 y_8 y_9, .slice y_a y_b y_c] : Array Value).toList := ⟨_, rfl⟩
      have hk5 : HasBlk10 g2 #[.int .i64 y_1, .bool y_2, .bool y_3, .string ⟨y_4.toArray⟩, .int .i64 y_5, .string ⟨y_6.toArray⟩, .slice y_7 y_8 y_9, .slice y_a y_b y_c] w5 := by
        rw [hw5]
        exact (heap_setCells _ _ _ HGN.out).trans (show Blk w3 g2 28 _ from ht)
      rw [← hw5] at HNX
      have HNX := Lib.hid HNX
      have HW5 := Lib.hid hw5
      clear hw5
      refine wpAnyH_ready (rs := [7]) (by kernel_rfl) (by simp) ?_
      refine AllReadyH.cons (o := ⟨none, _, _, _, _, _⟩) rfl (fun K hK => ?_) AllReadyH.nil
      rw [if_pos (by rfl)]
      refine wp_store_mid _ _ _ rfl g (j * 9) #[.string ⟨(Lib.decDigits j).toArray⟩, .int .i64 y_1, .bool y_2, .bool y_3, .string ⟨y_4.toArray⟩, .int .i64 y_5, .string ⟨y_6.toArray⟩, .slice y_7 y_8 y_9, .slice y_a y_b y_c] rfl rfl HTH.out (by kernel_rfl) (by simp [Value.oneCell']) ?_
      rw [← HW5.out]
      refine hK.out _ _ hk5 (fun ht5 => ?_)
      clear hK K ht hk5 ht5
      try simp only [Act.put, List.setIfInBounds_toArray, List.set_cons_zero, List.set_cons_succ]
      refine wpAnyH_done (by kernel_rfl) ?_ _
      go_wp2_with fail
      go_roundw
      case rel => exact ⟨j + 1, _, by go_num, HNX.out⟩
      case measure => simp [intOf]; omega
    · obtain rfl : j = l.length := by omega
      go_wp2_with fail
      go_ret
      exact ⟨_, l.length, by rw [Sh.numbered_len]; rfl, HR.out.fin HSB.out, by rw [Sh.numbered_len]; exact Nat.le_refl _, by unfold maxLen; omega, HR.out.below⟩

theorem Sh.errV_zero : errV ((0 : Nat) : Int) = .nilIface := rfl

set_option linter.unusedVariables false in
set_option linter.unusedSimpArgs false in
set_option maxRecDepth 100000 in
set_option maxHeartbeats 4000000 in
theorem kids10_on (S : Nat → Prop) (nm : List UInt8) (v : Vl) (x : Value) (w : World) (hS : ∀ b, S b → b < w.heap.size) (hT : Tab w) (hf : Wide v) (hx : v.In (w.on S) x) (h0 : Sh.shape nm v = 0) : Calls Tryz.prog 45 #[.string ⟨nm.toArray⟩, x] w (KidsS S (Sh.kids nm v) w) := by
  obtain ⟨k, b, n, s, l, m⟩ := v
  have hx0 := hx
  obtain ⟨A, e, B, d, rfl, q1, q2, q3, q4, q5, q6⟩ := In.form hx
  have hb1 := (Below.refl w.heap.size w).alloc (Nat.le_refl _) (.cells #[.int .i64 k, .bool b, .bool n.neg, .string ⟨n.digits.toArray⟩, .int .i64 n.exp, .string ⟨s.toArray⟩, .slice A l.length e, .slice B m.length d] 28)
  have HB := Lib.hid hb1
  have HK := Lib.hid (Blk.new w 28 #[.int .i64 k, .bool b, .bool n.neg, .string ⟨n.digits.toArray⟩, .int .i64 n.exp, .string ⟨s.toArray⟩, .slice A l.length e, .slice B m.length d])
  have HCH := Lib.hid (check_wide nm (.mk k b n s l m) _ (w.alloc (.cells #[.int .i64 k, .bool b, .bool n.neg, .string ⟨n.digits.toArray⟩, .int .i64 n.exp, .string ⟨s.toArray⟩, .slice A l.length e, .slice B m.length d] 28)) (hT.keep hb1) hf (In.keep (le_below hb1) _ _ (In.keep (on_all _ _) _ _ hx0)))
  rw [h0, Sh.errV_zero] at HCH
  have HSG := Lib.hid (single_any nm)
  have HX := Lib.hid hx0
  have HL := Lib.hid (show SlL (w.on S) A l from q5)
  have HM := Lib.hid (show SlM (w.on S) B m from q6)
  have HSB := Lib.hid hS
  have HT := Lib.hid hT
  have HFL := Lib.hid (Sh.fine_len hf)
  have HQ2 := Lib.hid q2
  have HQ4 := Lib.hid q4
  unfold maxLen at q2 q4
  clear hx hx0 hb1 h0 hT hf q5 q6 hS
  by_cases h8 : Sh.kw nm = 8
  · have HF := Lib.hid (show Sh.kids nm (.mk k b n s l m) = [([], .mk k b n s l m)] by rw [Sh.kids_mk, if_pos h8])
    rw [show Sh.single nm = true from decide_eq_true h8] at HSG
    clear h8
    go_enter Tryz.func45, Tryz.ntmps45
    go_upto_region 1 with (fail)
    generalize w.alloc (.cells #[.int .i64 k, .bool b, .bool n.neg, .string ⟨n.digits.toArray⟩, .int .i64 n.exp, .string ⟨s.toArray⟩, .slice A l.length e, .slice B m.length d] 28) = w1 at *
    obtain ⟨a0, a1, a2, a3, a4, a5, a6, a7⟩ := HK.out.eight
    have hkl := HK.out.lt
    go_wp2_with fail
    refine HCH.out.mono ?_
    rintro e2 w2 ⟨rfl, hb2⟩
    have HB2 := Lib.hid (HB.out.trans (hb2.mono HB.out.size))
    have HK2 := Lib.hid (HK.out.on hb2)
    clear hb2 a0 a1 a2 a3 a4 a5 a6 a7 hkl
    go_wp2_with fail
    refine (HSG.out _).mono ?_
    rintro e3 w3 ⟨rfl, rfl⟩
    obtain ⟨a0, a1, a2, a3, a4, a5, a6, a7⟩ := HK2.out.eight
    have hkl := HK2.out.lt
    go_wp2_with fail
    go_ret
    rw [HF.out]
    exact ⟨_, 1, rfl, slM_one10 (S := SNew S w) (Blk.new w3 88 #[.string ⟨([] : List UInt8).toArray⟩, .int .i64 k, .bool b, .bool n.neg, .string ⟨n.digits.toArray⟩, .int .i64 n.exp, .string ⟨s.toArray⟩, .slice A l.length e, .slice B m.length d]) (.inr HB2.out.size) (In.keep (SNew.le (HB2.out.alloc HB2.out.size _) HSB.out) _ _ HX.out), Nat.le_refl _, by unfold maxLen; omega, HB2.out.alloc HB2.out.size _⟩
  rw [show Sh.single nm = false from decide_eq_false h8] at HSG
  by_cases h9 : Sh.kw nm = 9
  · have HF := Lib.hid (show Sh.kids nm (.mk k b n s l m) = m by rw [Sh.kids_mk, if_neg h8, if_pos h9])
    have HN9 := Sh.kw_mem h9 (by decide)
    clear h8 h9
    simp only [Sh.kws, List.mem_cons, Prod.mk.injEq, List.not_mem_nil, or_false, Nat.reduceEqDiff, and_false, false_or, and_true] at HN9
    rcases HN9 with rfl | rfl
    all_goals
      go_enter Tryz.func45, Tryz.ntmps45
      go_upto_region 1 with (fail)
      generalize w.alloc (.cells #[.int .i64 k, .bool b, .bool n.neg, .string ⟨n.digits.toArray⟩, .int .i64 n.exp, .string ⟨s.toArray⟩, .slice A l.length e, .slice B m.length d] 28) = w1 at *
      obtain ⟨a0, a1, a2, a3, a4, a5, a6, a7⟩ := HK.out.eight
      have hkl := HK.out.lt
      go_wp2_with fail
      refine HCH.out.mono ?_
      rintro e2 w2 ⟨rfl, hb2⟩
      have HB2 := Lib.hid (HB.out.trans (hb2.mono HB.out.size))
      have HK2 := Lib.hid (HK.out.on hb2)
      clear hb2 a0 a1 a2 a3 a4 a5 a6 a7 hkl
      go_wp2_with fail
      refine (HSG.out _).mono ?_
      rintro e3 w3 ⟨rfl, rfl⟩
      obtain ⟨a0, a1, a2, a3, a4, a5, a6, a7⟩ := HK2.out.eight
      have hkl := HK2.out.lt
      go_wp2_with fail
      go_ret
      rw [HF.out]
      exact ⟨B, d, rfl, HM.out.keep (SNew.le HB2.out HSB.out), q3, HQ4.out, HB2.out⟩
  by_cases h10 : Sh.kw nm = 10
  · have HF := Lib.hid (show Sh.kids nm (.mk k b n s l m) = Sh.numbered l by rw [Sh.kids_mk, if_neg h8, if_neg h9, if_pos h10])
    have HN9 := Sh.kw_mem h10 (by decide)
    clear h8 h9 h10
    simp only [Sh.kws, List.mem_cons, Prod.mk.injEq, List.not_mem_nil, or_false, Nat.reduceEqDiff, and_false, false_or, and_true] at HN9
    rcases HN9 with rfl | rfl | rfl
    all_goals
      go_enter Tryz.func45, Tryz.ntmps45
      go_upto_region 1 with (fail)
      generalize w.alloc (.cells #[.int .i64 k, .bool b, .bool n.neg, .string ⟨n.digits.toArray⟩, .int .i64 n.exp, .string ⟨s.toArray⟩, .slice A l.length e, .slice B m.length d] 28) = w1 at *
      obtain ⟨a0, a1, a2, a3, a4, a5, a6, a7⟩ := HK.out.eight
      have hkl := HK.out.lt
      go_wp2_with fail
      refine HCH.out.mono ?_
      rintro e2 w2 ⟨rfl, hb2⟩
      have HB2 := Lib.hid (HB.out.trans (hb2.mono HB.out.size))
      have HK2 := Lib.hid (HK.out.on hb2)
      clear hb2 a0 a1 a2 a3 a4 a5 a6 a7 hkl
      go_wp2_with fail
      refine (HSG.out _).mono ?_
      rintro e3 w3 ⟨rfl, rfl⟩
      obtain ⟨a0, a1, a2, a3, a4, a5, a6, a7⟩ := HK2.out.eight
      have hkl := HK2.out.lt
      go_wp2_with fail
      refine (numbered10_any S l A e w3 (fun b k => Nat.lt_of_lt_of_le (HSB.out b k) HB2.out.size) (HT.out.keep HB2.out) (HL.out.keep (on_keep (fun _ h _ => h) (fun b hb _ => HB2.out.block b (HSB.out b hb)))) q1 HQ2.out HFL.out.1).mono ?_
      rintro e4 w4 ⟨A4, c4, rfl, h2, h3, h4, hb4⟩
      have H2 := Lib.hid (h2.keep (on_sub (S' := SNew S w) fun b hb => hb.imp id (Nat.le_trans HB2.out.size)))
      have H3 := Lib.hid h3
      have H4 := Lib.hid h4
      have HB4 := Lib.hid (HB2.out.trans (hb4.mono HB2.out.size))
      clear h2 h3 h4 hb4
      go_wp2_with fail
      go_ret
      rw [HF.out]
      exact ⟨A4, c4, rfl, H2.out, H3.out, H4.out, HB4.out⟩
  have HF := Lib.hid (show Sh.kids nm (.mk k b n s l m) = [] by rw [Sh.kids_mk, if_neg h8, if_neg h9, if_neg h10])
  have e1 : (nm == [112, 114, 111, 112, 101, 114, 116, 105, 101, 115]) = false := by rw [beq_eq_false_iff_ne]; rintro rfl; exact h9 (by decide)
  have e2 : (nm == [36, 100, 101, 102, 115]) = false := by rw [beq_eq_false_iff_ne]; rintro rfl; exact h9 (by decide)
  have e3 : (nm == [97, 108, 108, 79, 102]) = false := by rw [beq_eq_false_iff_ne]; rintro rfl; exact h10 (by decide)
  have e4 : (nm == [97, 110, 121, 79, 102]) = false := by rw [beq_eq_false_iff_ne]; rintro rfl; exact h10 (by decide)
  have e5 : (nm == [111, 110, 101, 79, 102]) = false := by rw [beq_eq_false_iff_ne]; rintro rfl; exact h10 (by decide)
  clear h8 h9 h10
  go_enter Tryz.func45, Tryz.ntmps45
  go_upto_region 1 with (fail)
  generalize w.alloc (.cells #[.int .i64 k, .bool b, .bool n.neg, .string ⟨n.digits.toArray⟩, .int .i64 n.exp, .string ⟨s.toArray⟩, .slice A l.length e, .slice B m.length d] 28) = w1 at *
  obtain ⟨a0, a1, a2, a3, a4, a5, a6, a7⟩ := HK.out.eight
  have hkl := HK.out.lt
  go_wp2_with fail
  refine HCH.out.mono ?_
  rintro e6 w2 ⟨rfl, hb2⟩
  have HB2 := Lib.hid (HB.out.trans (hb2.mono HB.out.size))
  clear hb2 a0 a1 a2 a3 a4 a5 a6 a7 hkl
  go_wp2_with fail
  refine (HSG.out _).mono ?_
  rintro e7 w3 ⟨rfl, rfl⟩
  go_wp2_with fail
  go_ret
  rw [HF.out]
  exact ⟨none, 0, rfl, (fun i p h => by simp at h), Nat.le_refl _, by unfold maxLen; omega, HB2.out⟩

end Go.Proofs.YtlhinefalkfjaaaGreatDoor


