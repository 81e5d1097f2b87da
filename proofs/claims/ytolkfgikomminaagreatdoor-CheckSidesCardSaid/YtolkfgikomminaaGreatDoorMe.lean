/- Me: Me Mf, in one text. -/
import Derived.Test.YtolkfgikomminaaGreatDoorRows
import Derived.Test.YtolkfgikomminaaGreatDoorVb
import Derived.WalkKit
import Derived.WalkSpells
import Derived.WalkLawsBesides
import Derived.Deep.QuietTactic
import Derived.BigQuiet
import Derived.RegionTactic
import Derived.Test.YtolkfgikomminaaGreatDoorWa
namespace Go.Proofs.YtolkfgikomminaaGreatDoor
open Go.RowKit Js
def Equaling (w : World) (l l' : List Vl) (i : Value) (wr : World) : Prop :=
 ∃ j : Nat, j ≤ l.length ∧ i = .int .i64 j ∧ sameL l l' = sameL (l.drop j) (l'.drop j) ∧ Below w.heap.size w wr

theorem sameL_len {l l' : List Vl} (h : ¬ l.length = l'.length) : sameL l l' = false := by
 cases hs : sameL l l' with
 | false => rfl
 | true =>
  exfalso
  induction l generalizing l' with
  | nil => cases l' <;> simp_all [sameL]
  | cons v l ih =>
   cases l' with
   | nil => simp [sameL] at hs
   | cons v' l' =>
    simp only [sameL, Bool.and_eq_true] at hs
    exact ih (by simpa using h) hs.2

set_option linter.unusedVariables false in
set_option maxRecDepth 100000 in
set_option maxHeartbeats 2000000 in
theorem equalL_any (l l' : List Vl) (A A' : Option Addr) (e e' : Nat) (w : World) (he : l.length ≤ e) (he' : l'.length ≤ e') (hm : e ≤ maxLen) (hm' : e' ≤ maxLen) (hs : SlL w.cell? A l) (hs' : SlL w.cell? A' l')
  (HC : ∀ v ∈ l, ∀ v' ∈ l', ∀ x x' w, v.In w.cell? x → v'.In w.cell? x' → Calls Tryz.prog 23 #[x, x'] w fun e w' => e = .returned (.bool (v.same v')) ∧ Below w.heap.size w w') :
  Calls Tryz.prog 49 #[.slice A l.length e, .slice A' l'.length e', .func (.func 23) #[] #[]] w fun e w' => e = .returned (.bool (sameL l l')) ∧ Below w.heap.size w w' := by
 unfold maxLen at hm hm'
 have HS := Lib.hid hs
 have HS' := Lib.hid hs'
 have HCC := Lib.hid HC
 clear hs hs' HC
 go_enter Tryz.func49, Tryz.ntmps49
 by_cases hlen : l.length = l'.length
 ·have t1 : ((l.length : Int) == (l'.length : Int)) = true := by simp [hlen]
  have t2 : ((l.length : Int) != (l'.length : Int)) = false := by simp [hlen]
  have HLEN := Lib.hid hlen
  clear hlen
  go_wp2_with fail
  go_loopw [17] (Equaling w l l') (fun i _ => l.length - (intOf i).toNat)
  case atStart => exact ⟨0, by omega, rfl, rfl, Below.refl _ _⟩
  case round =>
   obtain ⟨j, hj, rfl, hsm, hW⟩ := hrel
   have HSM := Lib.hid hsm
   clear hsm
   by_cases hlt : j < l.length
   ·have hlt' : j < l'.length := by have := HLEN.out; omega
    obtain ⟨g, o, y, rfl, hy, hc⟩ := HS.out j _ (List.getElem?_eq_getElem hlt)
    obtain ⟨g', o', y', rfl, hy', hc'⟩ := HS'.out j _ (List.getElem?_eq_getElem hlt')
    obtain ⟨k1, b1, n1, g1, x1, s1, A1, l1, p1, B1, m1, d1, rfl⟩ := In.cells hy
    obtain ⟨k2, b2, n2, g2, x2, s2, A2, l2, p2, B2, m2, d2, rfl⟩ := In.cells hy'
    have hle : Cl.le w.cell? wr.cell? := le_below hW
    obtain ⟨e0, e1, e2, e3, e4, e5, e6, e7⟩ := (hc.keep hle).eight
    obtain ⟨f0, f1, f2, f3, f4, f5, f6, f7⟩ := (hc'.keep hle).eight
    have hgl : g' < wr.heap.size := World.block_lt_of_cell? wr _ f0
    have hle2 := (hle.trans (le_alloc wr (.cells #[.int .i64 k1, .bool b1, .bool n1, .string ⟨g1.toArray⟩, .int .i64 x1, .string ⟨s1.toArray⟩, .slice A1 l1 p1, .slice B1 m1 d1] 31))).trans (le_alloc _ (.cells #[.int .i64 k2, .bool b2, .bool n2, .string ⟨g2.toArray⟩, .int .i64 x2, .string ⟨s2.toArray⟩, .slice A2 l2 p2, .slice B2 m2 d2] 31))
    have HY := Lib.hid (In.keep hle2 _ _ hy)
    have HY' := Lib.hid (In.keep hle2 _ _ hy')
    have HSTEP := Lib.hid (show sameL (l.drop j) (l'.drop j) = (l[j].same l'[j] && sameL (l.drop (j + 1)) (l'.drop (j + 1))) by
     rw [List.drop_eq_getElem_cons hlt, List.drop_eq_getElem_cons hlt']; simp only [sameL])
    have HCALL := Lib.hid (HCC.out l[j] (List.getElem_mem _) l'[j] (List.getElem_mem _))
    clear hc hc' hy hy' hle hle2
    generalize l[j].same l'[j] = q at HSTEP HCALL
    go_wp2_with fail
    refine (HCALL.out _ _ _ HY.out HY'.out).mono ?_
    rintro e' w2 ⟨rfl, hb2⟩
    have hb : Below w.heap.size w w2 := (hW.alloc hW.size _).alloc (by have := hW.size; simp; omega) _ |>.trans (hb2.mono (by have := hW.size; simp; omega))
    cases q with
    | true =>
     go_wp2_with fail
     go_roundw
     case rel => exact ⟨j + 1, by omega, by go_num, by rw [HSM.out, HSTEP.out]; rfl, hb⟩
     case measure => simp [intOf]; omega
    | false =>
     go_wp2_with fail
     go_ret
     exact ⟨by rw [HSM.out, HSTEP.out]; rfl, hb⟩
   ·obtain rfl : j = l.length := by omega
    have HE := Lib.hid (show sameL (l.drop l.length) (l'.drop l.length) = true by
     rw [List.drop_length, HLEN.out, List.drop_length]; simp only [sameL])
    go_wp2_with fail
    go_ret
    exact ⟨by rw [HSM.out, HE.out]; rfl, hW⟩
 ·have t1 : ((l.length : Int) == (l'.length : Int)) = false := by simp; omega
  have t2 : ((l.length : Int) != (l'.length : Int)) = true := by simp; omega
  have HE := Lib.hid (sameL_len hlen)
  clear hlen
  go_wp2_with fail
  go_ret
  exact ⟨by rw [HE.out]; rfl, Below.refl _ _⟩
end Go.Proofs.YtolkfgikomminaaGreatDoor

namespace Go.Proofs.YtolkfgikomminaaGreatDoor
open Go.RowKit Js

def EqualingM (w : World) (l l' : List Js.Mem) (i : Value) (wr : World) : Prop :=
 ∃ j : Nat, j ≤ l.length ∧ i = .int .i64 j ∧ sameM l l' = sameM (l.drop j) (l'.drop j) ∧ Below w.heap.size w wr

theorem sameM_len {l l' : List Js.Mem} (h : ¬ l.length = l'.length) : sameM l l' = false := by
 cases hs : sameM l l' with
 | false => rfl
 | true =>
  exfalso
  induction l generalizing l' with
  | nil => cases l' <;> simp_all [sameM]
  | cons v l ih =>
   cases l' with
   | nil => simp [sameM] at hs
   | cons v' l' =>
    simp only [sameM, Bool.and_eq_true] at hs
    exact ih (by simpa using h) hs.2

set_option linter.unusedVariables false in
set_option maxRecDepth 100000 in
set_option maxHeartbeats 2000000 in
theorem sameMember_any (p p' : Js.Mem) (k1 : Int) (b1 n1 : Bool) (g1 : List UInt8) (x1 : Int) (s1 : List UInt8) (A1 : Option Addr) (l1 p1 : Nat) (B1 : Option Addr) (m1 d1 : Nat) (k2 : Int) (b2 n2 : Bool) (g2 : List UInt8) (x2 : Int) (s2 : List UInt8) (A2 : Option Addr) (l2 p2 : Nat) (B2 : Option Addr) (m2 d2 : Nat) (w : World)
  (hx : p.2.In w.cell? (vlV k1 b1 n1 g1 x1 s1 (.slice A1 l1 p1) (.slice B1 m1 d1))) (hx' : p'.2.In w.cell? (vlV k2 b2 n2 g2 x2 s2 (.slice A2 l2 p2) (.slice B2 m2 d2)))
  (HC : ∀ x x' w, p.2.In w.cell? x → p'.2.In w.cell? x' → Calls Tryz.prog 23 #[x, x'] w fun e w' => e = .returned (.bool (p.2.same p'.2)) ∧ Below w.heap.size w w') :
  Calls Tryz.prog 51 #[.agg #[.string ⟨p.1.toArray⟩, .int .i64 k1, .bool b1, .bool n1, .string ⟨g1.toArray⟩, .int .i64 x1, .string ⟨s1.toArray⟩, .slice A1 l1 p1, .slice B1 m1 d1], .agg #[.string ⟨p'.1.toArray⟩, .int .i64 k2, .bool b2, .bool n2, .string ⟨g2.toArray⟩, .int .i64 x2, .string ⟨s2.toArray⟩, .slice A2 l2 p2, .slice B2 m2 d2]] w
   fun e w' => e = .returned (.bool (sameP p p')) ∧ Below w.heap.size w w' := by
 obtain ⟨key, v⟩ := p
 obtain ⟨key', v'⟩ := p'
 simp only at hx hx' HC
 have hle2 := (le_alloc w (.cells #[.string ⟨key.toArray⟩, .int .i64 k1, .bool b1, .bool n1, .string ⟨g1.toArray⟩, .int .i64 x1, .string ⟨s1.toArray⟩, .slice A1 l1 p1, .slice B1 m1 d1] 91)).trans (le_alloc _ (.cells #[.string ⟨key'.toArray⟩, .int .i64 k2, .bool b2, .bool n2, .string ⟨g2.toArray⟩, .int .i64 x2, .string ⟨s2.toArray⟩, .slice A2 l2 p2, .slice B2 m2 d2] 91))
 have HY := Lib.hid (In.keep hle2 _ _ hx)
 have HY' := Lib.hid (In.keep hle2 _ _ hx')
 have HCC := Lib.hid HC
 clear HC hx hx' hle2
 by_cases hk : key = key'
 ·have HP := Lib.hid (show sameP (key, v) (key', v') = v.same v' by simp [sameP, hk])
  subst hk
  go_enter Tryz.func51, Tryz.ntmps51
  go_wp2_with fail
  refine (HCC.out _ _ _ HY.out HY'.out).mono ?_
  rintro e' w2 ⟨rfl, hb2⟩
  have hb : Below w.heap.size w w2 := ((Below.refl _ _).alloc (Nat.le_refl _) _).alloc (by simp) _ |>.trans (hb2.mono (by simp; omega))
  go_wp2_with fail
  go_ret
  exact ⟨by rw [HP.out]; rfl, hb⟩
 ·have HP := Lib.hid (show sameP (key, v) (key', v') = false by simp [sameP, hk])
  have hkb : (key == key') = false := by simpa using hk
  have hb : Below w.heap.size w _ := (((Below.refl _ _).alloc (Nat.le_refl _) (.cells #[.string ⟨key.toArray⟩, .int .i64 k1, .bool b1, .bool n1, .string ⟨g1.toArray⟩, .int .i64 x1, .string ⟨s1.toArray⟩, .slice A1 l1 p1, .slice B1 m1 d1] 91)).alloc (by simp) (.cells #[.string ⟨key'.toArray⟩, .int .i64 k2, .bool b2, .bool n2, .string ⟨g2.toArray⟩, .int .i64 x2, .string ⟨s2.toArray⟩, .slice A2 l2 p2, .slice B2 m2 d2] 91))
  go_enter Tryz.func51, Tryz.ntmps51
  go_wp2_with fail
  go_ret
  exact ⟨by rw [HP.out]; rfl, hb⟩

set_option linter.unusedVariables false in
set_option maxRecDepth 100000 in
set_option maxHeartbeats 2000000 in
theorem equalM_any (l l' : List Js.Mem) (A A' : Option Addr) (e e' : Nat) (w : World) (he : l.length ≤ e) (he' : l'.length ≤ e') (hm : e ≤ maxLen) (hm' : e' ≤ maxLen) (hs : SlM w.cell? A l) (hs' : SlM w.cell? A' l')
  (HC : ∀ v ∈ l, ∀ v' ∈ l', ∀ x x' w, v.2.In w.cell? x → v'.2.In w.cell? x' → Calls Tryz.prog 23 #[x, x'] w fun e w' => e = .returned (.bool (v.2.same v'.2)) ∧ Below w.heap.size w w') :
  Calls Tryz.prog 50 #[.slice A l.length e, .slice A' l'.length e', .func (.func 51) #[] #[]] w fun e w' => e = .returned (.bool (sameM l l')) ∧ Below w.heap.size w w' := by
 unfold maxLen at hm hm'
 have HS := Lib.hid hs
 have HS' := Lib.hid hs'
 have HCC := Lib.hid HC
 clear hs hs' HC
 go_enter Tryz.func50, Tryz.ntmps50
 by_cases hlen : l.length = l'.length
 ·have t1 : ((l.length : Int) == (l'.length : Int)) = true := by simp [hlen]
  have t2 : ((l.length : Int) != (l'.length : Int)) = false := by simp [hlen]
  have HLEN := Lib.hid hlen
  clear hlen
  go_wp2_with fail
  go_loopw [17] (EqualingM w l l') (fun i _ => l.length - (intOf i).toNat)
  case atStart => exact ⟨0, by omega, rfl, rfl, Below.refl _ _⟩
  case round =>
   obtain ⟨j, hj, rfl, hsm, hW⟩ := hrel
   have HSM := Lib.hid hsm
   clear hsm
   by_cases hlt : j < l.length
   ·have hlt' : j < l'.length := by have := HLEN.out; omega
    obtain ⟨g, o, y, rfl, hy, hk, hc⟩ := HS.out j _ (List.getElem?_eq_getElem hlt)
    obtain ⟨g', o', y', rfl, hy', hk', hc'⟩ := HS'.out j _ (List.getElem?_eq_getElem hlt')
    obtain ⟨k1, b1, n1, g1, x1, s1, A1, l1, p1, B1, m1, d1, rfl⟩ := In.cells hy
    obtain ⟨k2, b2, n2, g2, x2, s2, A2, l2, p2, B2, m2, d2, rfl⟩ := In.cells hy'
    have hle : Cl.le w.cell? wr.cell? := le_below hW
    obtain ⟨e0, e1, e2, e3, e4, e5, e6, e7⟩ := (hc.keep hle).eight
    have ek := hle _ _ hk
    have fk := hle _ _ hk'
    obtain ⟨f0, f1, f2, f3, f4, f5, f6, f7⟩ := (hc'.keep hle).eight
    have hgl : g' < wr.heap.size := World.block_lt_of_cell? wr _ f0
    have hle2 := (hle.trans (le_alloc wr (.cells #[.string ⟨l[j].1.toArray⟩, .int .i64 k1, .bool b1, .bool n1, .string ⟨g1.toArray⟩, .int .i64 x1, .string ⟨s1.toArray⟩, .slice A1 l1 p1, .slice B1 m1 d1] 91))).trans (le_alloc _ (.cells #[.string ⟨l'[j].1.toArray⟩, .int .i64 k2, .bool b2, .bool n2, .string ⟨g2.toArray⟩, .int .i64 x2, .string ⟨s2.toArray⟩, .slice A2 l2 p2, .slice B2 m2 d2] 91))
    have HY := Lib.hid (In.keep hle2 _ _ hy)
    have HY' := Lib.hid (In.keep hle2 _ _ hy')
    have HSTEP := Lib.hid (show sameM (l.drop j) (l'.drop j) = (sameP l[j] l'[j] && sameM (l.drop (j + 1)) (l'.drop (j + 1))) by
     rw [List.drop_eq_getElem_cons hlt, List.drop_eq_getElem_cons hlt']; simp only [sameM])
    have HCALL := Lib.hid (fun w => sameMember_any (l[j]'hlt) (l'[j]'hlt') k1 b1 n1 g1 x1 s1 A1 l1 p1 B1 m1 d1 k2 b2 n2 g2 x2 s2 A2 l2 p2 B2 m2 d2 w)
    have HCA := Lib.hid (HCC.out (l[j]'hlt) (List.getElem_mem hlt) (l'[j]'hlt') (List.getElem_mem hlt'))
    clear hc hc' hy hy' hk hk' hle hle2
    generalize sameP l[j] l'[j] = q at HSTEP HCALL
    generalize l[j].1 = key at *
    generalize l'[j].1 = key' at *
    go_wp2_with fail
    refine (HCALL.out _ HY.out HY'.out HCA.out).mono ?_
    rintro e' w2 ⟨rfl, hb2⟩
    have hb : Below w.heap.size w w2 := (hW.alloc hW.size _).alloc (by have := hW.size; simp; omega) _ |>.trans (hb2.mono (by have := hW.size; simp; omega))
    cases q with
    | true =>
     go_wp2_with fail
     go_roundw
     case rel => exact ⟨j + 1, by omega, by go_num, by rw [HSM.out, HSTEP.out]; rfl, hb⟩
     case measure => simp [intOf]; omega
    | false =>
     go_wp2_with fail
     go_ret
     exact ⟨by rw [HSM.out, HSTEP.out]; rfl, hb⟩
   ·obtain rfl : j = l.length := by omega
    have HE := Lib.hid (show sameM (l.drop l.length) (l'.drop l.length) = true by
     rw [List.drop_length, HLEN.out, List.drop_length]; simp only [sameM])
    go_wp2_with fail
    go_ret
    exact ⟨by rw [HSM.out, HE.out]; rfl, hW⟩
 ·have t1 : ((l.length : Int) == (l'.length : Int)) = false := by simp; omega
  have t2 : ((l.length : Int) != (l'.length : Int)) = true := by simp; omega
  have HE := Lib.hid (sameM_len hlen)
  clear hlen
  go_wp2_with fail
  go_ret
  exact ⟨by rw [HE.out]; rfl, Below.refl _ _⟩
end Go.Proofs.YtolkfgikomminaaGreatDoor

namespace Go.Proofs.YtolkfgikomminaaGreatDoor
open Go.RowKit Js
end Go.Proofs.YtolkfgikomminaaGreatDoor

namespace Go.Proofs.YtolkfgikomminaaGreatDoor
open Go.RowKit Js
end Go.Proofs.YtolkfgikomminaaGreatDoor

namespace Go.Proofs.YtolkfgikomminaaGreatDoor
open Go.RowKit Js
end Go.Proofs.YtolkfgikomminaaGreatDoor

namespace Go.Proofs.YtolkfgikomminaaGreatDoor
open Go.RowKit Js
end Go.Proofs.YtolkfgikomminaaGreatDoor

namespace Go.Proofs.YtolkfgikomminaaGreatDoor
open Go.RowKit Js

set_option linter.unusedVariables false in
set_option linter.unusedSimpArgs false in
set_option maxRecDepth 100000 in
set_option maxHeartbeats 2000000 in
theorem same_any (v : Vl) : ∀ (v' : Vl) (x x' : Value) (w : World), v.may = true → v'.may = true → v.In w.cell? x → v'.In w.cell? x' →
  Calls Tryz.prog 23 #[x, x'] w fun e w' => e = .returned (.bool (v.same v')) ∧ Below w.heap.size w w' := by
 induction v using Vl.ind with
 | h k b n s l m hl hm =>
 rintro ⟨k', b', n', s', l', m'⟩ x x' w hv hv' hx hx'
 obtain ⟨A, e, B, d, rfl, q1, q2, q3, q4, q5, q6⟩ := In.form hx
 obtain ⟨A', e', B', d', rfl, q1', q2', q3', q4', q5', q6'⟩ := In.form hx'
 obtain ⟨o0, o1, o2, o3, o4, o5, o6, o7, o8, o9, o10, o11⟩ := may_own hv
 obtain ⟨r0, r1, r2, r3, r4, r5, r6, r7, r8, r9, r10, r11⟩ := may_own hv'
 obtain ⟨neg, dg, ex⟩ := n
 obtain ⟨neg', dg', ex'⟩ := n'
 have HL := Lib.hid hl
 have HM := Lib.hid hm
 have H5 := Lib.hid (show SlL w.cell? A l from q5)
 have H6 := Lib.hid (show SlM w.cell? B m from q6)
 have H5' := Lib.hid (show SlL w.cell? A' l' from q5')
 have H6' := Lib.hid (show SlM w.cell? B' m' from q6')
 have HB : Below w.heap.size w _ := (((Below.refl _ _).alloc (Nat.le_refl _) (.cells #[.int .i64 k, .bool b, .bool neg, .string ⟨dg.toArray⟩, .int .i64 ex, .string ⟨s.toArray⟩, .slice A l.length e, .slice B m.length d] 31)).alloc (by simp) (.cells #[.int .i64 k', .bool b', .bool neg', .string ⟨dg'.toArray⟩, .int .i64 ex', .string ⟨s'.toArray⟩, .slice A' l'.length e', .slice B' m'.length d'] 31))
 clear hl hm hx hx' q5 q6 q5' q6' hv hv'
 simp only
 by_cases hk : k = k'
 ·subst hk
  have hkk : k = 0 ∨ k = 1 ∨ k = 2 ∨ k = 3 ∨ k = 4 ∨ k = 5 := by omega
  rcases hkk with rfl | rfl | rfl | rfl | rfl | rfl
  ·obtain rfl := o2 (by decide)
   obtain rfl := r2 (by decide)
   obtain e1 := o3 (by decide)
   obtain e1' := r3 (by decide)
   obtain rfl := o4 (by decide)
   obtain rfl := r4 (by decide)
   obtain rfl := o5 (by decide)
   obtain rfl := r5 (by decide)
   obtain rfl := o6 (by decide)
   obtain rfl := r6 (by decide)
   cases e1
   cases e1'
   have HS := Lib.hid (show (Vl.mk 0 false ⟨false, [], 0⟩ [] [] []).same (Vl.mk 0 false ⟨false, [], 0⟩ [] [] []) = true from same_refl _)
   clear o2 o3 o4 o5 o6 o7 o8 o9 o10 o11 r2 r3 r4 r5 r6 r7 r8 r9 r10 r11
   go_enter Tryz.func23, Tryz.ntmps23
   go_wp2_with fail
   go_ret
   exact ⟨by rw [show (⟨false, [], 0⟩ : Nm.Num) = ⟨false, [], 0⟩ from rfl, HS.out]; rfl, HB⟩
  ·obtain e1 := o3 (by decide)
   obtain e1' := r3 (by decide)
   obtain rfl := o4 (by decide)
   obtain rfl := r4 (by decide)
   obtain rfl := o5 (by decide)
   obtain rfl := r5 (by decide)
   obtain rfl := o6 (by decide)
   obtain rfl := r6 (by decide)
   cases e1
   cases e1'
   have HS := Lib.hid (show (Vl.mk 1 b ⟨false, [], 0⟩ [] [] []).same (Vl.mk 1 b' ⟨false, [], 0⟩ [] [] []) = (b == b') by
    simp only [Vl.same, sameL, sameM, Bool.and_true, decide_true, Bool.true_and]
    cases b <;> cases b' <;> rfl)
   clear o2 o3 o4 o5 o6 o7 o8 o9 o10 o11 r2 r3 r4 r5 r6 r7 r8 r9 r10 r11
   go_enter Tryz.func23, Tryz.ntmps23
   go_wp2_with fail
   go_ret
   exact ⟨by rw [HS.out]; rfl, HB⟩
  ·obtain rfl := o2 (by decide)
   obtain rfl := r2 (by decide)
   obtain rfl := o4 (by decide)
   obtain rfl := r4 (by decide)
   obtain rfl := o5 (by decide)
   obtain rfl := r5 (by decide)
   obtain rfl := o6 (by decide)
   obtain rfl := r6 (by decide)
   have hn := mayNum_May o7
   have hn' := mayNum_May r7
   have HSAME := Lib.hid (show (Vl.mk 2 false ⟨neg, dg, ex⟩ [] [] []).same (Vl.mk 2 false ⟨neg', dg', ex'⟩ [] [] []) = (Nm.cmp ⟨neg, dg, ex⟩ ⟨neg', dg', ex'⟩ == 0) by
    simp only [Vl.same, sameL, sameM, Bool.and_true, decide_true, Bool.true_and]
    rw [Bool.eq_iff_iff, decide_eq_true_eq, beq_iff_eq]
    exact (Nm.laws.same _ _ hn hn').symm)
   have HC := Lib.hid (fun W => cmp_any neg dg ex neg' dg' ex' W hn.fair hn'.fair)
   clear hn hn' o2 o3 o4 o5 o6 o7 o8 o9 o10 o11 r2 r3 r4 r5 r6 r7 r8 r9 r10 r11
   generalize Nm.cmp ⟨neg, dg, ex⟩ ⟨neg', dg', ex'⟩ = q at HSAME HC
   go_enter Tryz.func23, Tryz.ntmps23
   go_wp2_with fail
   refine (HC.out _).mono ?_
   rintro e1 w1 ⟨rfl, hb1⟩
   have hb := HB.trans (hb1.mono (by simp; omega))
   go_wp2_with fail
   go_ret
   exact ⟨by rw [HSAME.out]; rfl, hb⟩
  ·obtain rfl := o2 (by decide)
   obtain rfl := r2 (by decide)
   obtain e1 := o3 (by decide)
   obtain e1' := r3 (by decide)
   obtain rfl := o5 (by decide)
   obtain rfl := r5 (by decide)
   obtain rfl := o6 (by decide)
   obtain rfl := r6 (by decide)
   cases e1
   cases e1'
   have HS := Lib.hid (show (Vl.mk 3 false ⟨false, [], 0⟩ s [] []).same (Vl.mk 3 false ⟨false, [], 0⟩ s' [] []) = (s == s') by
    simp only [Vl.same, sameL, sameM, Bool.and_true, decide_true, Bool.true_and]
    rw [Bool.eq_iff_iff, decide_eq_true_eq, beq_iff_eq])
   clear o2 o3 o4 o5 o6 o7 o8 o9 o10 o11 r2 r3 r4 r5 r6 r7 r8 r9 r10 r11
   go_enter Tryz.func23, Tryz.ntmps23
   go_wp2_with fail
   go_ret
   exact ⟨by rw [HS.out]; rfl, HB⟩
  ·obtain rfl := o2 (by decide)
   obtain rfl := r2 (by decide)
   obtain e1 := o3 (by decide)
   obtain e1' := r3 (by decide)
   obtain rfl := o4 (by decide)
   obtain rfl := r4 (by decide)
   obtain rfl := o6 (by decide)
   obtain rfl := r6 (by decide)
   cases e1
   cases e1'
   have HS := Lib.hid (show (Vl.mk 4 false ⟨false, [], 0⟩ [] l []).same (Vl.mk 4 false ⟨false, [], 0⟩ [] l' []) = sameL l l' by
    simp only [Vl.same, sameL, sameM, Bool.and_true, decide_true, Bool.true_and])
   have HEQ := Lib.hid (fun W hs hs' => equalL_any l l' A A' e e' W q1 q1' q2 q2' hs hs' (fun v hv v' hv' x x' w hx hx' => HL.out v hv v' x x' w ((mayL_iff l).1 o9 v hv) ((mayL_iff l').1 r9 v' hv') hx hx'))
   have K1 := Lib.hid (H5.out.keep (le_below HB))
   have K2 := Lib.hid (H5'.out.keep (le_below HB))
   clear o2 o3 o4 o5 o6 o7 o8 o9 o10 o11 r2 r3 r4 r5 r6 r7 r8 r9 r10 r11
   unfold maxLen at q2 q2' q4 q4'
   generalize sameL l l' = q at HS HEQ
   go_enter Tryz.func23, Tryz.ntmps23
   go_wp2_with fail
   refine (HEQ.out _ K1.out K2.out).mono ?_
   rintro e1 w1 ⟨rfl, hb1⟩
   have hb := HB.trans (hb1.mono (by simp; omega))
   go_wp2_with fail
   go_ret
   exact ⟨by rw [HS.out]; rfl, hb⟩
  ·obtain rfl := o2 (by decide)
   obtain rfl := r2 (by decide)
   obtain e1 := o3 (by decide)
   obtain e1' := r3 (by decide)
   obtain rfl := o4 (by decide)
   obtain rfl := r4 (by decide)
   obtain rfl := o5 (by decide)
   obtain rfl := r5 (by decide)
   cases e1
   cases e1'
   have HS := Lib.hid (show (Vl.mk 5 false ⟨false, [], 0⟩ [] [] m).same (Vl.mk 5 false ⟨false, [], 0⟩ [] [] m') = sameM m m' by
    simp only [Vl.same, sameL, sameM, Bool.and_true, decide_true, Bool.true_and])
   have HEQ := Lib.hid (fun W hs hs' => equalM_any m m' B B' d d' W q3 q3' q4 q4' hs hs' (fun v hv v' hv' x x' w hx hx' => HM.out v hv v'.2 x x' w ((mayM_iff m).1 o10 v hv).2 ((mayM_iff m').1 r10 v' hv').2 hx hx'))
   have K1 := Lib.hid (H6.out.keep (le_below HB))
   have K2 := Lib.hid (H6'.out.keep (le_below HB))
   clear o2 o3 o4 o5 o6 o7 o8 o9 o10 o11 r2 r3 r4 r5 r6 r7 r8 r9 r10 r11
   unfold maxLen at q2 q2' q4 q4'
   generalize sameM m m' = q at HS HEQ
   go_enter Tryz.func23, Tryz.ntmps23
   go_wp2_with fail
   refine (HEQ.out _ K1.out K2.out).mono ?_
   rintro e1 w1 ⟨rfl, hb1⟩
   have hb := HB.trans (hb1.mono (by simp; omega))
   go_wp2_with fail
   go_ret
   exact ⟨by rw [HS.out]; rfl, hb⟩
 ·have t1 : (k == k') = false := by simpa using hk
  have t2 : (k != k') = true := by simpa using hk
  have HS := Lib.hid (show (Vl.mk k b ⟨neg, dg, ex⟩ s l m).same (Vl.mk k' b' ⟨neg', dg', ex'⟩ s' l' m') = false by simp [Vl.same, hk])
  clear hk o2 o3 o4 o5 o6 o7 o8 o9 o10 o11 r2 r3 r4 r5 r6 r7 r8 r9 r10 r11
  go_enter Tryz.func23, Tryz.ntmps23
  go_wp2_with fail
  go_ret
  exact ⟨by rw [HS.out]; rfl, HB⟩
end Go.Proofs.YtolkfgikomminaaGreatDoor

namespace Go.Proofs.YtolkfgikomminaaGreatDoor
open Go.RowKit Js
end Go.Proofs.YtolkfgikomminaaGreatDoor


