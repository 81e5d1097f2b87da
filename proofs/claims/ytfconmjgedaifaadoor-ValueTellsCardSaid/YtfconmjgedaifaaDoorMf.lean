/- Mf: Vi Rc, in one text. -/
import Derived.Test.YtfconmjgedaifaaDoorMe
import Derived.Test.YtfconmjgedaifaaDoorWb
/- The walk of layer 3: the program's Same. -/
namespace Go.Proofs.YtfconmjgedaifaaDoor
open Go.RowKit Js

set_option linter.unusedVariables false in
set_option linter.unusedSimpArgs false in
set_option maxRecDepth 100000 in
set_option maxHeartbeats 2000000 in
theorem same_any (v : Vl) : ∀ (v' : Vl) (x x' : Value) (w : World), v.may = true → v'.may = true → v.In w.cell? x → v'.In w.cell? x' →
    Calls Tryd.prog 36 #[x, x'] w fun e w' => e = .returned (.bool (v.same v')) ∧ Below w.heap.size w w' := by
  induction v using Vl.ind with
  | h k b n s l m hl hm =>
  rintro ⟨k', b', n', s', l', m'⟩ x x' w hv hv' hx hx'
  obtain ⟨A, e, B, d, rfl, q1, q2, q3, q4, q5, q6⟩ := In.form hx
  obtain ⟨A', e', B', d', rfl, q1', q2', q3', q4', q5', q6'⟩ := In.form hx'
  obtain ⟨o0, o1, o2, o3, o4, o5, o6, o7, o8, o9, o10, o11⟩ := may_own hv
  obtain ⟨r0, r1, r2, r3, r4, r5, r6, r7, r8, r9, r10, r11⟩ := may_own hv'
  obtain ⟨neg, dg, ex⟩ := n
  obtain ⟨neg', dg', ex'⟩ := n'
  have HL := Lib.hid hl
  have HM := Lib.hid hm
  have H5 := Lib.hid (show SlL w.cell? A l from q5)
  have H6 := Lib.hid (show SlM w.cell? B m from q6)
  have H5' := Lib.hid (show SlL w.cell? A' l' from q5')
  have H6' := Lib.hid (show SlM w.cell? B' m' from q6')
  have HB : Below w.heap.size w _ := (((Below.refl _ _).alloc (Nat.le_refl _) (.cells #[.int .i64 k, .bool b, .bool neg, .string ⟨dg.toArray⟩, .int .i64 ex, .string ⟨s.toArray⟩, .slice A l.length e, .slice B m.length d] 52)).alloc (by simp) (.cells #[.int .i64 k', .bool b', .bool neg', .string ⟨dg'.toArray⟩, .int .i64 ex', .string ⟨s'.toArray⟩, .slice A' l'.length e', .slice B' m'.length d'] 52))
  clear hl hm hx hx' q5 q6 q5' q6' hv hv'
  simp only
  by_cases hk : k = k'
  · subst hk
    have hkk : k = 0 ∨ k = 1 ∨ k = 2 ∨ k = 3 ∨ k = 4 ∨ k = 5 := by omega
    rcases hkk with rfl | rfl | rfl | rfl | rfl | rfl
    · obtain rfl := o2 (by decide)
      obtain rfl := r2 (by decide)
      obtain e1 := o3 (by decide)
      obtain e1' := r3 (by decide)
      obtain rfl := o4 (by decide)
      obtain rfl := r4 (by decide)
      obtain rfl := o5 (by decide)
      obtain rfl := r5 (by decide)
      obtain rfl := o6 (by decide)
      obtain rfl := r6 (by decide)
      cases e1
      cases e1'
      have HS := Lib.hid (show (Vl.mk 0 false ⟨false, [], 0⟩ [] [] []).same (Vl.mk 0 false ⟨false, [], 0⟩ [] [] []) = true from same_refl _)
      clear o2 o3 o4 o5 o6 o7 o8 o9 o10 o11 r2 r3 r4 r5 r6 r7 r8 r9 r10 r11
      go_enter Tryd.func36, Tryd.ntmps36
      go_wp2_with fail
      go_ret
      exact ⟨by rw [show (⟨false, [], 0⟩ : Nm.Num) = ⟨false, [], 0⟩ from rfl, HS.out]; rfl, HB⟩
    · obtain e1 := o3 (by decide)
      obtain e1' := r3 (by decide)
      obtain rfl := o4 (by decide)
      obtain rfl := r4 (by decide)
      obtain rfl := o5 (by decide)
      obtain rfl := r5 (by decide)
      obtain rfl := o6 (by decide)
      obtain rfl := r6 (by decide)
      cases e1
      cases e1'
      have HS := Lib.hid (show (Vl.mk 1 b ⟨false, [], 0⟩ [] [] []).same (Vl.mk 1 b' ⟨false, [], 0⟩ [] [] []) = (b == b') by
        simp only [Vl.same, sameL, sameM, Bool.and_true, decide_true, Bool.true_and]
        cases b <;> cases b' <;> rfl)
      clear o2 o3 o4 o5 o6 o7 o8 o9 o10 o11 r2 r3 r4 r5 r6 r7 r8 r9 r10 r11
      go_enter Tryd.func36, Tryd.ntmps36
      go_wp2_with fail
      go_ret
      exact ⟨by rw [HS.out]; rfl, HB⟩
    · obtain rfl := o2 (by decide)
      obtain rfl := r2 (by decide)
      obtain rfl := o4 (by decide)
      obtain rfl := r4 (by decide)
      obtain rfl := o5 (by decide)
      obtain rfl := r5 (by decide)
      obtain rfl := o6 (by decide)
      obtain rfl := r6 (by decide)
      have hn := mayNum_May o7
      have hn' := mayNum_May r7
      have HSAME := Lib.hid (show (Vl.mk 2 false ⟨neg, dg, ex⟩ [] [] []).same (Vl.mk 2 false ⟨neg', dg', ex'⟩ [] [] []) = (Nm.cmp ⟨neg, dg, ex⟩ ⟨neg', dg', ex'⟩ == 0) by
        simp only [Vl.same, sameL, sameM, Bool.and_true, decide_true, Bool.true_and]
        rw [Bool.eq_iff_iff, decide_eq_true_eq, beq_iff_eq]
        exact (Nm.laws.same _ _ hn hn').symm)
      have HC := Lib.hid (fun W => cmp_any neg dg ex neg' dg' ex' W hn.fair hn'.fair)
      clear hn hn' o2 o3 o4 o5 o6 o7 o8 o9 o10 o11 r2 r3 r4 r5 r6 r7 r8 r9 r10 r11
      generalize Nm.cmp ⟨neg, dg, ex⟩ ⟨neg', dg', ex'⟩ = q at HSAME HC
      go_enter Tryd.func36, Tryd.ntmps36
      go_wp2_with fail
      refine (HC.out _).mono ?_
      rintro e1 w1 ⟨rfl, hb1⟩
      have hb := HB.trans (hb1.mono (by simp; omega))
      go_wp2_with fail
      go_ret
      exact ⟨by rw [HSAME.out]; rfl, hb⟩
    · obtain rfl := o2 (by decide)
      obtain rfl := r2 (by decide)
      obtain e1 := o3 (by decide)
      obtain e1' := r3 (by decide)
      obtain rfl := o5 (by decide)
      obtain rfl := r5 (by decide)
      obtain rfl := o6 (by decide)
      obtain rfl := r6 (by decide)
      cases e1
      cases e1'
      have HS := Lib.hid (show (Vl.mk 3 false ⟨false, [], 0⟩ s [] []).same (Vl.mk 3 false ⟨false, [], 0⟩ s' [] []) = (s == s') by
        simp only [Vl.same, sameL, sameM, Bool.and_true, decide_true, Bool.true_and]
        rw [Bool.eq_iff_iff, decide_eq_true_eq, beq_iff_eq])
      clear o2 o3 o4 o5 o6 o7 o8 o9 o10 o11 r2 r3 r4 r5 r6 r7 r8 r9 r10 r11
      go_enter Tryd.func36, Tryd.ntmps36
      go_wp2_with fail
      go_ret
      exact ⟨by rw [HS.out]; rfl, HB⟩
    · obtain rfl := o2 (by decide)
      obtain rfl := r2 (by decide)
      obtain e1 := o3 (by decide)
      obtain e1' := r3 (by decide)
      obtain rfl := o4 (by decide)
      obtain rfl := r4 (by decide)
      obtain rfl := o6 (by decide)
      obtain rfl := r6 (by decide)
      cases e1
      cases e1'
      have HS := Lib.hid (show (Vl.mk 4 false ⟨false, [], 0⟩ [] l []).same (Vl.mk 4 false ⟨false, [], 0⟩ [] l' []) = sameL l l' by
        simp only [Vl.same, sameL, sameM, Bool.and_true, decide_true, Bool.true_and])
      have HEQ := Lib.hid (fun W hs hs' => equalL_any l l' A A' e e' W q1 q1' q2 q2' hs hs' (fun v hv v' hv' x x' w hx hx' => HL.out v hv v' x x' w ((mayL_iff l).1 o9 v hv) ((mayL_iff l').1 r9 v' hv') hx hx'))
      have K1 := Lib.hid (H5.out.keep (le_below HB))
      have K2 := Lib.hid (H5'.out.keep (le_below HB))
      clear o2 o3 o4 o5 o6 o7 o8 o9 o10 o11 r2 r3 r4 r5 r6 r7 r8 r9 r10 r11
      unfold maxLen at q2 q2' q4 q4'
      generalize sameL l l' = q at HS HEQ
      go_enter Tryd.func36, Tryd.ntmps36
      go_wp2_with fail
      refine (HEQ.out _ K1.out K2.out).mono ?_
      rintro e1 w1 ⟨rfl, hb1⟩
      have hb := HB.trans (hb1.mono (by simp; omega))
      go_wp2_with fail
      go_ret
      exact ⟨by rw [HS.out]; rfl, hb⟩
    · obtain rfl := o2 (by decide)
      obtain rfl := r2 (by decide)
      obtain e1 := o3 (by decide)
      obtain e1' := r3 (by decide)
      obtain rfl := o4 (by decide)
      obtain rfl := r4 (by decide)
      obtain rfl := o5 (by decide)
      obtain rfl := r5 (by decide)
      cases e1
      cases e1'
      have HS := Lib.hid (show (Vl.mk 5 false ⟨false, [], 0⟩ [] [] m).same (Vl.mk 5 false ⟨false, [], 0⟩ [] [] m') = sameM m m' by
        simp only [Vl.same, sameL, sameM, Bool.and_true, decide_true, Bool.true_and])
      have HEQ := Lib.hid (fun W hs hs' => equalM_any m m' B B' d d' W q3 q3' q4 q4' hs hs' (fun v hv v' hv' x x' w hx hx' => HM.out v hv v'.2 x x' w ((mayM_iff m).1 o10 v hv).2 ((mayM_iff m').1 r10 v' hv').2 hx hx'))
      have K1 := Lib.hid (H6.out.keep (le_below HB))
      have K2 := Lib.hid (H6'.out.keep (le_below HB))
      clear o2 o3 o4 o5 o6 o7 o8 o9 o10 o11 r2 r3 r4 r5 r6 r7 r8 r9 r10 r11
      unfold maxLen at q2 q2' q4 q4'
      generalize sameM m m' = q at HS HEQ
      go_enter Tryd.func36, Tryd.ntmps36
      go_wp2_with fail
      refine (HEQ.out _ K1.out K2.out).mono ?_
      rintro e1 w1 ⟨rfl, hb1⟩
      have hb := HB.trans (hb1.mono (by simp; omega))
      go_wp2_with fail
      go_ret
      exact ⟨by rw [HS.out]; rfl, hb⟩
  · have t1 : (k == k') = false := by simpa using hk
    have t2 : (k != k') = true := by simpa using hk
    have HS := Lib.hid (show (Vl.mk k b ⟨neg, dg, ex⟩ s l m).same (Vl.mk k' b' ⟨neg', dg', ex'⟩ s' l' m') = false by simp [Vl.same, hk])
    clear hk o2 o3 o4 o5 o6 o7 o8 o9 o10 o11 r2 r3 r4 r5 r6 r7 r8 r9 r10 r11
    go_enter Tryd.func36, Tryd.ntmps36
    go_wp2_with fail
    go_ret
    exact ⟨by rw [HS.out]; rfl, HB⟩
end Go.Proofs.YtfconmjgedaifaaDoor

/- The program's hasOnlyOwn. -/
namespace Go.Proofs.YtfconmjgedaifaaDoor
open Go.RowKit Js

theorem natz (m : Nat) : ((m : Int) == 0) = decide (m = 0) := by
  rw [Bool.eq_iff_iff]; simp

set_option linter.unusedVariables false in
set_option linter.unusedSimpArgs false in
set_option maxRecDepth 100000 in
set_option maxHeartbeats 4000000 in
theorem own_any (k : Int) (b neg : Bool) (dg : List UInt8) (ex : Int) (s : List UInt8) (A : Option Addr) (l e : Nat) (B : Option Addr) (m d : Nat) (w : World) :
    Calls Tryd.prog 88 #[vlV k b neg dg ex s (.slice A l e) (.slice B m d)] w fun e w' => e = .returned (.bool (ownOf k b ⟨neg, dg, ex⟩ s l m)) ∧ Below w.heap.size w w' := by
  have hk : k = 0 ∨ k = 1 ∨ k = 2 ∨ k = 3 ∨ k = 4 ∨ k = 5 ∨ (¬ k = 0 ∧ ¬ k = 1 ∧ ¬ k = 2 ∧ ¬ k = 3 ∧ ¬ k = 4 ∧ ¬ k = 5) := by omega
  rcases hk with rfl | rfl | rfl | rfl | rfl | rfl | ⟨h0, h1, h2, h3, h4, h5⟩
  case inr.inr.inr.inr.inr.inr =>
    have t0 : (k == 0) = false := by simpa using h0
    have t1 : (k == 1) = false := by simpa using h1
    have t2 : (k == 2) = false := by simpa using h2
    have t3 : (k == 3) = false := by simpa using h3
    have t4 : (k == 4) = false := by simpa using h4
    have t5 : (k == 5) = false := by simpa using h5
    have HQ := Lib.hid (show ownOf k b ⟨neg, dg, ex⟩ s l m = false by
      unfold ownOf
      rw [Bool.eq_false_iff]
      intro h
      simp only [Bool.and_eq_true, decide_eq_true_eq] at h
      omega)
    go_enter Tryd.func88, Tryd.ntmps88
    go_wp2_with fail
    go_ret
    exact ⟨by rw [HQ.out]; rfl, (Below.refl _ _).alloc (Nat.le_refl _) _⟩
  all_goals
    go_enter Tryd.func88, Tryd.ntmps88
    go_wp2_with fail
    all_goals
      go_ret
      refine ⟨?_, (Below.refl _ _).alloc (Nat.le_refl _) _⟩
      congr 2
      first | (simp_all [ownOf, Nm.Num.zero]; done) | (simp_all [ownOf, Nm.Num.zero]; exact natz _)

end Go.Proofs.YtfconmjgedaifaaDoor

