/- Me: Me Mf, in one text. -/
import Derived.Test.YtjjenpmahmbafaaGreatDoorRows
import Derived.Test.YtjjenpmahmbafaaGreatDoorVb
import Derived.WalkKit
import Derived.WalkSpells
import Derived.WalkLawsBesides
import Derived.Deep.QuietTactic
import Derived.BigQuiet
import Derived.RegionTactic
import Derived.Test.YtjjenpmahmbafaaGreatDoorWb
namespace Go.Proofs.YtjjenpmahmbafaaGreatDoor
open Go.RowKit Js
def Equaling (w : World) (l l' : List Vl) (i : Value) (wr : World) : Prop :=
  ∃ j : Nat, j ≤ l.length ∧ i = .int .i64 j ∧ sameL l l' = sameL (l.drop j) (l'.drop j) ∧ Below w.heap.size w wr

theorem sameL_len {l l' : List Vl} (h : ¬ l.length = l'.length) : sameL l l' = false := by
  cases hs : sameL l l' with
  | false => rfl
  | true =>
    exfalso
    induction l generalizing l' with
    | nil => cases l' <;> simp_all [sameL]
    | cons v l ih =>
      cases l' with
      | nil => simp [sameL] at hs
      | cons v' l' =>
        simp only [sameL, Bool.and_eq_true] at hs
        exact ih (by simpa using h) hs.2

set_option linter.unusedVariables false in
set_option maxRecDepth 100000 in
set_option maxHeartbeats 2000000 in
theorem equalL_any (l l' : List Vl) (A A' : Option Addr) (e e' : Nat) (w : World) (he : l.length ≤ e) (he' : l'.length ≤ e') (hm : e ≤ maxLen) (hm' : e' ≤ maxLen) (hs : SlL w.cell? A l) (hs' : SlL w.cell? A' l')
    (HC : ∀ v ∈ l, ∀ v' ∈ l', ∀ x x' w, v.In w.cell? x → v'.In w.cell? x' → Calls Tryz.prog 67 #[x, x'] w fun e w' => e = .returned (.bool (v.same v')) ∧ Below w.heap.size w w') :
    Calls Tryz.prog 83 #[.slice A l.length e, .slice A' l'.length e', .func (.func 67) #[] #[]] w fun e w' => e = .returned (.bool (sameL l l')) ∧ Below w.heap.size w w' := by
  unfold maxLen at hm hm'
  have HS := Lib.hid hs
  have HS' := Lib.hid hs'
  have HCC := Lib.hid HC
  clear hs hs' HC
  go_enter Tryz.func83, Tryz.ntmps83
  by_cases hlen : l.length = l'.length
  · have t1 : ((l.length : Int) == (l'.length : Int)) = true := by simp [hlen]
    have t2 : ((l.length : Int) != (l'.length : Int)) = false := by simp [hlen]
    have HLEN := Lib.hid hlen
    clear hlen
    go_wp2_with fail
    go_loopw [17] (Equaling w l l') (fun i _ => l.length - (intOf i).toNat)
    case atStart => exact ⟨0, by omega, rfl, rfl, Below.refl _ _⟩
    case round =>
      obtain ⟨j, hj, rfl, hsm, hW⟩ := hrel
      have HSM := Lib.hid hsm
      clear hsm
      by_cases hlt : j < l.length
      · have hlt' : j < l'.length := by have := HLEN.out; omega
        obtain ⟨g, o, y, rfl, hy, hc⟩ := HS.out j _ (List.getElem?_eq_getElem hlt)
        obtain ⟨g', o', y', rfl, hy', hc'⟩ := HS'.out j _ (List.getElem?_eq_getElem hlt')
        obtain ⟨k1, b1, n1, g1, x1, s1, A1, l1, p1, B1, m1, d1, rfl⟩ := In.cells hy
        obtain ⟨k2, b2, n2, g2, x2, s2, A2, l2, p2, B2, m2, d2, rfl⟩ := In.cells hy'
        have hle : Cl.le w.cell? wr.cell? := le_below hW
        obtain ⟨e0, e1, e2, e3, e4, e5, e6, e7⟩ := (hc.keep hle).eight
        obtain ⟨f0, f1, f2, f3, f4, f5, f6, f7⟩ := (hc'.keep hle).eight
        have hgl : g' < wr.heap.size := World.block_lt_of_cell? wr _ f0
        have hle2 := (hle.trans (le_alloc wr (.cells #[.int .i64 k1, .bool b1, .bool n1, .string ⟨g1.toArray⟩, .int .i64 x1, .string ⟨s1.toArray⟩, .slice A1 l1 p1, .slice B1 m1 d1] 28))).trans (le_alloc _ (.cells #[.int .i64 k2, .bool b2, .bool n2, .string ⟨g2.toArray⟩, .int .i64 x2, .string ⟨s2.toArray⟩, .slice A2 l2 p2, .slice B2 m2 d2] 28))
        have HY := Lib.hid (In.keep hle2 _ _ hy)
        have HY' := Lib.hid (In.keep hle2 _ _ hy')
        have HSTEP := Lib.hid (show sameL (l.drop j) (l'.drop j) = (l[j].same l'[j] && sameL (l.drop (j + 1)) (l'.drop (j + 1))) by
          rw [List.drop_eq_getElem_cons hlt, List.drop_eq_getElem_cons hlt']; simp only [sameL])
        have HCALL := Lib.hid (HCC.out l[j] (List.getElem_mem _) l'[j] (List.getElem_mem _))
        clear hc hc' hy hy' hle hle2
        generalize l[j].same l'[j] = q at HSTEP HCALL
        go_wp2_with fail
        refine (HCALL.out _ _ _ HY.out HY'.out).mono ?_
        rintro e' w2 ⟨rfl, hb2⟩
        have hb : Below w.heap.size w w2 := (hW.alloc hW.size _).alloc (by have := hW.size; simp; omega) _ |>.trans (hb2.mono (by have := hW.size; simp; omega))
        cases q with
        | true =>
          go_wp2_with fail
          go_roundw
          case rel => exact ⟨j + 1, by omega, by go_num, by rw [HSM.out, HSTEP.out]; rfl, hb⟩
          case measure => simp [intOf]; omega
        | false =>
          go_wp2_with fail
          go_ret
          exact ⟨by rw [HSM.out, HSTEP.out]; rfl, hb⟩
      · obtain rfl : j = l.length := by omega
        have HE := Lib.hid (show sameL (l.drop l.length) (l'.drop l.length) = true by
          rw [List.drop_length, HLEN.out, List.drop_length]; simp only [sameL])
        go_wp2_with fail
        go_ret
        exact ⟨by rw [HSM.out, HE.out]; rfl, hW⟩
  · have t1 : ((l.length : Int) == (l'.length : Int)) = false := by simp; omega
    have t2 : ((l.length : Int) != (l'.length : Int)) = true := by simp; omega
    have HE := Lib.hid (sameL_len hlen)
    clear hlen
    go_wp2_with fail
    go_ret
    exact ⟨by rw [HE.out]; rfl, Below.refl _ _⟩
end Go.Proofs.YtjjenpmahmbafaaGreatDoor

namespace Go.Proofs.YtjjenpmahmbafaaGreatDoor
open Go.RowKit Js

def EqualingM (w : World) (l l' : List Js.Mem) (i : Value) (wr : World) : Prop :=
  ∃ j : Nat, j ≤ l.length ∧ i = .int .i64 j ∧ sameM l l' = sameM (l.drop j) (l'.drop j) ∧ Below w.heap.size w wr

theorem sameM_len {l l' : List Js.Mem} (h : ¬ l.length = l'.length) : sameM l l' = false := by
  cases hs : sameM l l' with
  | false => rfl
  | true =>
    exfalso
    induction l generalizing l' with
    | nil => cases l' <;> simp_all [sameM]
    | cons v l ih =>
      cases l' with
      | nil => simp [sameM] at hs
      | cons v' l' =>
        simp only [sameM, Bool.and_eq_true] at hs
        exact ih (by simpa using h) hs.2

set_option linter.unusedVariables false in
set_option maxRecDepth 100000 in
set_option maxHeartbeats 2000000 in
theorem sameMember_any (p p' : Js.Mem) (k1 : Int) (b1 n1 : Bool) (g1 : List UInt8) (x1 : Int) (s1 : List UInt8) (A1 : Option Addr) (l1 p1 : Nat) (B1 : Option Addr) (m1 d1 : Nat) (k2 : Int) (b2 n2 : Bool) (g2 : List UInt8) (x2 : Int) (s2 : List UInt8) (A2 : Option Addr) (l2 p2 : Nat) (B2 : Option Addr) (m2 d2 : Nat) (w : World)
    (hx : p.2.In w.cell? (vlV k1 b1 n1 g1 x1 s1 (.slice A1 l1 p1) (.slice B1 m1 d1))) (hx' : p'.2.In w.cell? (vlV k2 b2 n2 g2 x2 s2 (.slice A2 l2 p2) (.slice B2 m2 d2)))
    (HC : ∀ x x' w, p.2.In w.cell? x → p'.2.In w.cell? x' → Calls Tryz.prog 67 #[x, x'] w fun e w' => e = .returned (.bool (p.2.same p'.2)) ∧ Below w.heap.size w w') :
    Calls Tryz.prog 85 #[.agg #[.string ⟨p.1.toArray⟩, .int .i64 k1, .bool b1, .bool n1, .string ⟨g1.toArray⟩, .int .i64 x1, .string ⟨s1.toArray⟩, .slice A1 l1 p1, .slice B1 m1 d1], .agg #[.string ⟨p'.1.toArray⟩, .int .i64 k2, .bool b2, .bool n2, .string ⟨g2.toArray⟩, .int .i64 x2, .string ⟨s2.toArray⟩, .slice A2 l2 p2, .slice B2 m2 d2]] w
      fun e w' => e = .returned (.bool (sameP p p')) ∧ Below w.heap.size w w' := by
  obtain ⟨key, v⟩ := p
  obtain ⟨key', v'⟩ := p'
  simp only at hx hx' HC
  have hle2 := (le_alloc w (.cells #[.string ⟨key.toArray⟩, .int .i64 k1, .bool b1, .bool n1, .string ⟨g1.toArray⟩, .int .i64 x1, .string ⟨s1.toArray⟩, .slice A1 l1 p1, .slice B1 m1 d1] 69)).trans (le_alloc _ (.cells #[.string ⟨key'.toArray⟩, .int .i64 k2, .bool b2, .bool n2, .string ⟨g2.toArray⟩, .int .i64 x2, .string ⟨s2.toArray⟩, .slice A2 l2 p2, .slice B2 m2 d2] 69))
  have HY := Lib.hid (In.keep hle2 _ _ hx)
  have HY' := Lib.hid (In.keep hle2 _ _ hx')
  have HCC := Lib.hid HC
  clear HC hx hx' hle2
  by_cases hk : key = key'
  · have HP := Lib.hid (show sameP (key, v) (key', v') = v.same v' by simp [sameP, hk])
    subst hk
    go_enter Tryz.func85, Tryz.ntmps85
    go_wp2_with fail
    refine (HCC.out _ _ _ HY.out HY'.out).mono ?_
    rintro e' w2 ⟨rfl, hb2⟩
    have hb : Below w.heap.size w w2 := ((Below.refl _ _).alloc (Nat.le_refl _) _).alloc (by simp) _ |>.trans (hb2.mono (by simp; omega))
    go_wp2_with fail
    go_ret
    exact ⟨by rw [HP.out]; rfl, hb⟩
  · have HP := Lib.hid (show sameP (key, v) (key', v') = false by simp [sameP, hk])
    have hkb : (key == key') = false := by simpa using hk
    have hb : Below w.heap.size w _ := (((Below.refl _ _).alloc (Nat.le_refl _) (.cells #[.string ⟨key.toArray⟩, .int .i64 k1, .bool b1, .bool n1, .string ⟨g1.toArray⟩, .int .i64 x1, .string ⟨s1.toArray⟩, .slice A1 l1 p1, .slice B1 m1 d1] 69)).alloc (by simp) (.cells #[.string ⟨key'.toArray⟩, .int .i64 k2, .bool b2, .bool n2, .string ⟨g2.toArray⟩, .int .i64 x2, .string ⟨s2.toArray⟩, .slice A2 l2 p2, .slice B2 m2 d2] 69))
    go_enter Tryz.func85, Tryz.ntmps85
    go_wp2_with fail
    go_ret
    exact ⟨by rw [HP.out]; rfl, hb⟩

set_option linter.unusedVariables false in
set_option maxRecDepth 100000 in
set_option maxHeartbeats 2000000 in
theorem equalM_any (l l' : List Js.Mem) (A A' : Option Addr) (e e' : Nat) (w : World) (he : l.length ≤ e) (he' : l'.length ≤ e') (hm : e ≤ maxLen) (hm' : e' ≤ maxLen) (hs : SlM w.cell? A l) (hs' : SlM w.cell? A' l')
    (HC : ∀ v ∈ l, ∀ v' ∈ l', ∀ x x' w, v.2.In w.cell? x → v'.2.In w.cell? x' → Calls Tryz.prog 67 #[x, x'] w fun e w' => e = .returned (.bool (v.2.same v'.2)) ∧ Below w.heap.size w w') :
    Calls Tryz.prog 84 #[.slice A l.length e, .slice A' l'.length e', .func (.func 85) #[] #[]] w fun e w' => e = .returned (.bool (sameM l l')) ∧ Below w.heap.size w w' := by
  unfold maxLen at hm hm'
  have HS := Lib.hid hs
  have HS' := Lib.hid hs'
  have HCC := Lib.hid HC
  clear hs hs' HC
  go_enter Tryz.func84, Tryz.ntmps84
  by_cases hlen : l.length = l'.length
  · have t1 : ((l.length : Int) == (l'.length : Int)) = true := by simp [hlen]
    have t2 : ((l.length : Int) != (l'.length : Int)) = false := by simp [hlen]
    have HLEN := Lib.hid hlen
    clear hlen
    go_wp2_with fail
    go_loopw [17] (EqualingM w l l') (fun i _ => l.length - (intOf i).toNat)
    case atStart => exact ⟨0, by omega, rfl, rfl, Below.refl _ _⟩
    case round =>
      obtain ⟨j, hj, rfl, hsm, hW⟩ := hrel
      have HSM := Lib.hid hsm
      clear hsm
      by_cases hlt : j < l.length
      · have hlt' : j < l'.length := by have := HLEN.out; omega
        obtain ⟨g, o, y, rfl, hy, hk, hc⟩ := HS.out j _ (List.getElem?_eq_getElem hlt)
        obtain ⟨g', o', y', rfl, hy', hk', hc'⟩ := HS'.out j _ (List.getElem?_eq_getElem hlt')
        obtain ⟨k1, b1, n1, g1, x1, s1, A1, l1, p1, B1, m1, d1, rfl⟩ := In.cells hy
        obtain ⟨k2, b2, n2, g2, x2, s2, A2, l2, p2, B2, m2, d2, rfl⟩ := In.cells hy'
        have hle : Cl.le w.cell? wr.cell? := le_below hW
        obtain ⟨e0, e1, e2, e3, e4, e5, e6, e7⟩ := (hc.keep hle).eight
        have ek := hle _ _ hk
        have fk := hle _ _ hk'
        obtain ⟨f0, f1, f2, f3, f4, f5, f6, f7⟩ := (hc'.keep hle).eight
        have hgl : g' < wr.heap.size := World.block_lt_of_cell? wr _ f0
        have hle2 := (hle.trans (le_alloc wr (.cells #[.string ⟨l[j].1.toArray⟩, .int .i64 k1, .bool b1, .bool n1, .string ⟨g1.toArray⟩, .int .i64 x1, .string ⟨s1.toArray⟩, .slice A1 l1 p1, .slice B1 m1 d1] 69))).trans (le_alloc _ (.cells #[.string ⟨l'[j].1.toArray⟩, .int .i64 k2, .bool b2, .bool n2, .string ⟨g2.toArray⟩, .int .i64 x2, .string ⟨s2.toArray⟩, .slice A2 l2 p2, .slice B2 m2 d2] 69))
        have HY := Lib.hid (In.keep hle2 _ _ hy)
        have HY' := Lib.hid (In.keep hle2 _ _ hy')
        have HSTEP := Lib.hid (show sameM (l.drop j) (l'.drop j) = (sameP l[j] l'[j] && sameM (l.drop (j + 1)) (l'.drop (j + 1))) by
          rw [List.drop_eq_getElem_cons hlt, List.drop_eq_getElem_cons hlt']; simp only [sameM])
        have HCALL := Lib.hid (fun w => sameMember_any (l[j]'hlt) (l'[j]'hlt') k1 b1 n1 g1 x1 s1 A1 l1 p1 B1 m1 d1 k2 b2 n2 g2 x2 s2 A2 l2 p2 B2 m2 d2 w)
        have HCA := Lib.hid (HCC.out (l[j]'hlt) (List.getElem_mem hlt) (l'[j]'hlt') (List.getElem_mem hlt'))
        clear hc hc' hy hy' hk hk' hle hle2
        generalize sameP l[j] l'[j] = q at HSTEP HCALL
        generalize l[j].1 = key at *
        generalize l'[j].1 = key' at *
        go_wp2_with fail
        refine (HCALL.out _ HY.out HY'.out HCA.out).mono ?_
        rintro e' w2 ⟨rfl, hb2⟩
        have hb : Below w.heap.size w w2 := (hW.alloc hW.size _).alloc (by have := hW.size; simp; omega) _ |>.trans (hb2.mono (by have := hW.size; simp; omega))
        cases q with
        | true =>
          go_wp2_with fail
          go_roundw
          case rel => exact ⟨j + 1, by omega, by go_num, by rw [HSM.out, HSTEP.out]; rfl, hb⟩
          case measure => simp [intOf]; omega
        | false =>
          go_wp2_with fail
          go_ret
          exact ⟨by rw [HSM.out, HSTEP.out]; rfl, hb⟩
      · obtain rfl : j = l.length := by omega
        have HE := Lib.hid (show sameM (l.drop l.length) (l'.drop l.length) = true by
          rw [List.drop_length, HLEN.out, List.drop_length]; simp only [sameM])
        go_wp2_with fail
        go_ret
        exact ⟨by rw [HSM.out, HE.out]; rfl, hW⟩
  · have t1 : ((l.length : Int) == (l'.length : Int)) = false := by simp; omega
    have t2 : ((l.length : Int) != (l'.length : Int)) = true := by simp; omega
    have HE := Lib.hid (sameM_len hlen)
    clear hlen
    go_wp2_with fail
    go_ret
    exact ⟨by rw [HE.out]; rfl, Below.refl _ _⟩
end Go.Proofs.YtjjenpmahmbafaaGreatDoor

namespace Go.Proofs.YtjjenpmahmbafaaGreatDoor
open Go.RowKit Js

def Folding (w : World) (k : Int) (b : Bool) (n : Nm.Num) (s : List UInt8) (lv mv : Value) (len : Nat) (f : Nat → Nat) (t i : Value) (wr : World) : Prop :=
  ∃ j : Nat, j ≤ len ∧ i = .int .i64 j ∧ t = .int .i64 (f j : Nat) ∧ Boxed w k b n.neg n.digits n.exp s lv mv wr

end Go.Proofs.YtjjenpmahmbafaaGreatDoor

namespace Go.Proofs.YtjjenpmahmbafaaGreatDoor
open Go.RowKit Js

set_option linter.unusedSimpArgs false in
set_option linter.unusedVariables false in
set_option maxRecDepth 100000 in
set_option maxHeartbeats 2000000 in
theorem size_any (v : Vl) : ∀ (x : Value) (w : World), v.In w.cell? x → v.size ≤ 1000000000000 →
    Calls Tryz.prog 40 #[x] w fun e w' => e = .returned (.int .i64 v.size) ∧ Below w.heap.size w w' := by
  induction v using Vl.ind with
  | h k b n s l m hl hm =>
  intro x w hx hsz
  obtain ⟨A, e, B, d, rfl, q1, q2, q3, q4, q5, q6⟩ := In.form hx
  unfold maxLen at q2 q4
  have HL := Lib.hid hl
  have HM := Lib.hid hm
  have H5 := Lib.hid q5
  have H6 := Lib.hid q6
  clear hl hm hx q5 q6
  simp only [Vl.size] at hsz
  go_enter Tryz.func40, Tryz.ntmps40
  go_wp2_with fail
  go_loopw [3, 11] (Folding w k b n s (.slice A l.length e) (.slice B m.length d) l.length (fun j => 1 + sizeL (l.take j))) (fun _ i _ => l.length - (intOf i).toNat)
  case atStart => exact ⟨0, by omega, rfl, by simp [sizeL], Boxed.start⟩
  case round =>
    obtain ⟨j, hj, rfl, rfl, hW⟩ := hrel
    obtain ⟨f0, f1, f2, f3, f4, f5, f6, f7⟩ := hW.cells
    by_cases hlt : j < l.length
    · obtain ⟨g, o, y, rfl, hy, hc⟩ := H5.out j _ (List.getElem?_eq_getElem hlt)
      have hcr := hc.keep hW.le
      obtain ⟨k1, b1, n1, g1, x1, s1, A1, l1, p1, B1, m1, d1, rfl⟩ := In.cells hy
      have HY := Lib.hid (In.keep (hW.le.trans (le_alloc wr (.cells #[.int .i64 k1, .bool b1, .bool n1, .string ⟨g1.toArray⟩, .int .i64 x1, .string ⟨s1.toArray⟩, .slice A1 l1 p1, .slice B1 m1 d1] 28))) _ _ hy)
      obtain ⟨e0, e1, e2, e3, e4, e5, e6, e7⟩ := hcr.eight
      have hst := sizeL_take l j hlt
      have hle := sizeL_le l (j + 1)
      rw [hst] at hle
      have hle2 : l[j].size ≤ 1000000000000 := by omega
      have HST := Lib.hid (show 1 + sizeL (l.take (j + 1)) = 1 + sizeL (l.take j) + l[j].size by omega)
      have hb := hW.below
      clear hcr hc hy hst
      go_wp2_with fail
      refine (HL.out l[j] (List.getElem_mem _) _ _ HY.out hle2).mono ?_
      rintro e' w2 ⟨rfl, hb2⟩
      go_wp2_with fail
      go_roundw
      case rel => exact ⟨j + 1, by omega, by go_num, by simp only [HST.out]; go_num, hW.next (((Below.refl _ _).alloc (Nat.le_refl _) _).trans (hb2.mono (by simp)))⟩
      case measure => simp [intOf]; omega
    · obtain rfl : j = l.length := by omega
      have HT := Lib.hid (show l.take l.length = l from List.take_length)
      go_wp2_with fail
      go_loopw [3, 23] (Folding w k b n s (.slice A l.length e) (.slice B m.length d) m.length (fun j => 1 + sizeL l + sizeM (m.take j))) (fun _ i _ => m.length - (intOf i).toNat)
      case atStart => exact ⟨0, by omega, rfl, by simp [sizeM, HT.out], hW⟩
      case round =>
        clear hW f0 f1 f2 f3 f4 f5 f6 f7
        obtain ⟨j, hj, rfl, rfl, hW⟩ := hrel
        obtain ⟨f0, f1, f2, f3, f4, f5, f6, f7⟩ := hW.cells
        by_cases hlt : j < m.length
        · obtain ⟨g, o, y, rfl, hy, hk, hc⟩ := H6.out j _ (List.getElem?_eq_getElem hlt)
          have hcr := hc.keep hW.le
          have hkr := hW.le _ _ hk
          obtain ⟨k1, b1, n1, g1, x1, s1, A1, l1, p1, B1, m1, d1, rfl⟩ := In.cells hy
          have HY := Lib.hid (In.keep (hW.le.trans (le_alloc wr (.cells #[.string ⟨m[j].1.toArray⟩, .int .i64 k1, .bool b1, .bool n1, .string ⟨g1.toArray⟩, .int .i64 x1, .string ⟨s1.toArray⟩, .slice A1 l1 p1, .slice B1 m1 d1] 69))) _ _ hy)
          obtain ⟨e0, e1, e2, e3, e4, e5, e6, e7⟩ := hcr.eight
          have hst := sizeM_take m j hlt
          have hle := sizeM_le m (j + 1)
          rw [hst] at hle
          have hle2 : m[j].2.size ≤ 1000000000000 := by omega
          have HST := Lib.hid (show 1 + sizeL l + sizeM (m.take (j + 1)) = 1 + sizeL l + sizeM (m.take j) + m[j].2.size by omega)
          have hb := hW.below
          clear hcr hc hy hst hk
          go_wp2_with fail
          refine (HM.out m[j] (List.getElem_mem _) _ _ HY.out hle2).mono ?_
          rintro e' w2 ⟨rfl, hb2⟩
          go_wp2_with fail
          go_roundw
          case rel => exact ⟨j + 1, by omega, by go_num, by simp only [HST.out]; go_num, hW.next (((Below.refl _ _).alloc (Nat.le_refl _) _).trans (hb2.mono (by simp)))⟩
          case measure => simp [intOf]; omega
        · obtain rfl : j = m.length := by omega
          have HT2 := Lib.hid (show m.take m.length = m from List.take_length)
          have hb := hW.below
          go_wp2_with fail
          go_ret
          exact ⟨by simp only [HT2.out, Vl.size]; rfl, hb⟩

end Go.Proofs.YtjjenpmahmbafaaGreatDoor

namespace Go.Proofs.YtjjenpmahmbafaaGreatDoor
open Go.RowKit Js
end Go.Proofs.YtjjenpmahmbafaaGreatDoor

namespace Go.Proofs.YtjjenpmahmbafaaGreatDoor
open Go.RowKit Js

set_option linter.unusedSimpArgs false in
set_option linter.unusedVariables false in
set_option maxRecDepth 100000 in
set_option maxHeartbeats 2000000 in
theorem depth_any (v : Vl) : ∀ (x : Value) (w : World), v.In w.cell? x → v.levels ≤ 1000000000000 →
    Calls Tryz.prog 41 #[x] w fun e w' => e = .returned (.int .i64 v.depth) ∧ Below w.heap.size w w' := by
  induction v using Vl.ind with
  | h k b n s l m hl hm =>
  intro x w hx hsz
  obtain ⟨A, e, B, d, rfl, q1, q2, q3, q4, q5, q6⟩ := In.form hx
  unfold maxLen at q2 q4
  have HL := Lib.hid hl
  have HM := Lib.hid hm
  have H5 := Lib.hid q5
  have H6 := Lib.hid q6
  clear hl hm hx q5 q6
  simp only [Vl.levels] at hsz
  have hdl : depthL l ≤ 1000000000000 := by have := depthL_levels l; omega
  have hdm : depthM m ≤ 1000000000000 := by have := depthM_levels m; omega
  by_cases hk : k = 4 ∨ k = 5
  · have HK := Lib.hid hk
    have hu : (k != 4) = false ∨ ((k != 4) = true ∧ (k != 5) = false) := by
      by_cases h4 : k = 4
      · left; simp [h4]
      · right; exact ⟨by simp [h4], by simp [hk.resolve_left h4]⟩
    clear hk
    rcases hu with u4 | ⟨u4, u5⟩
    all_goals
      go_enter Tryz.func41, Tryz.ntmps41
      go_wp2_with fail

      go_loopw [3, 19] (Folding w k b n s (.slice A l.length e) (.slice B m.length d) l.length (fun j => depthL (l.take j))) (fun _ i _ => l.length - (intOf i).toNat)
      case atStart => exact ⟨0, by omega, rfl, by simp [depthL], Boxed.start⟩
      case round =>
        obtain ⟨j, hj, rfl, rfl, hW⟩ := hrel
        obtain ⟨f0, f1, f2, f3, f4, f5, f6, f7⟩ := hW.cells
        by_cases hlt : j < l.length
        · obtain ⟨g, o, y, rfl, hy, hc⟩ := H5.out j _ (List.getElem?_eq_getElem hlt)
          have hcr := hc.keep hW.le
          obtain ⟨k1, b1, n1, g1, x1, s1, A1, l1, p1, B1, m1, d1, rfl⟩ := In.cells hy
          have HY := Lib.hid (In.keep (hW.le.trans (le_alloc wr (.cells #[.int .i64 k1, .bool b1, .bool n1, .string ⟨g1.toArray⟩, .int .i64 x1, .string ⟨s1.toArray⟩, .slice A1 l1 p1, .slice B1 m1 d1] 28))) _ _ hy)
          obtain ⟨e0, e1, e2, e3, e4, e5, e6, e7⟩ := hcr.eight
          have hst := depthL_take l j hlt
          have hle2 : l[j].levels ≤ 1000000000000 := by have := levelsL_mem (List.getElem_mem hlt); omega
          have HST := Lib.hid (show depthL (l.take (j + 1)) = max (depthL (l.take j)) l[j].depth from hst)
          have hb := hW.below
          clear hcr hc hy hst
          go_wp2_with fail
          refine (HL.out l[j] (List.getElem_mem _) _ _ HY.out hle2).mono ?_
          rintro e' w2 ⟨rfl, hb2⟩
          go_wp2_with fail
          go_roundw
          case rel => exact ⟨j + 1, by omega, by go_num, by simp only [HST.out]; go_num, hW.next (((Below.refl _ _).alloc (Nat.le_refl _) _).trans (hb2.mono (by simp)))⟩
          case measure => simp [intOf]; omega
        · obtain rfl : j = l.length := by omega
          have HT := Lib.hid (show l.take l.length = l from List.take_length)
          go_wp2_with fail
          go_loopw [3, 31] (Folding w k b n s (.slice A l.length e) (.slice B m.length d) m.length (fun j => max (depthL l) (depthM (m.take j)))) (fun _ i _ => m.length - (intOf i).toNat)
          case atStart => exact ⟨0, by omega, rfl, by simp [depthM, HT.out], hW⟩
          case round =>
            clear hW f0 f1 f2 f3 f4 f5 f6 f7
            obtain ⟨j, hj, rfl, rfl, hW⟩ := hrel
            obtain ⟨f0, f1, f2, f3, f4, f5, f6, f7⟩ := hW.cells
            by_cases hlt : j < m.length
            · obtain ⟨g, o, y, rfl, hy, hk, hc⟩ := H6.out j _ (List.getElem?_eq_getElem hlt)
              have hcr := hc.keep hW.le
              have hkr := hW.le _ _ hk
              obtain ⟨k1, b1, n1, g1, x1, s1, A1, l1, p1, B1, m1, d1, rfl⟩ := In.cells hy
              have HY := Lib.hid (In.keep (hW.le.trans (le_alloc wr (.cells #[.string ⟨m[j].1.toArray⟩, .int .i64 k1, .bool b1, .bool n1, .string ⟨g1.toArray⟩, .int .i64 x1, .string ⟨s1.toArray⟩, .slice A1 l1 p1, .slice B1 m1 d1] 69))) _ _ hy)
              obtain ⟨e0, e1, e2, e3, e4, e5, e6, e7⟩ := hcr.eight
              have hst := depthM_take m j hlt
              have hle2 : m[j].2.levels ≤ 1000000000000 := by have := levelsM_mem (List.getElem_mem hlt); omega
              have HST := Lib.hid (show max (depthL l) (depthM (m.take (j + 1))) = max (max (depthL l) (depthM (m.take j))) m[j].2.depth by rw [hst, Nat.max_assoc])
              have hb := hW.below
              clear hcr hc hy hst hk
              go_wp2_with fail
              refine (HM.out m[j] (List.getElem_mem _) _ _ HY.out hle2).mono ?_
              rintro e' w2 ⟨rfl, hb2⟩
              go_wp2_with fail
              go_roundw
              case rel => exact ⟨j + 1, by omega, by go_num, by simp only [HST.out]; go_num, hW.next (((Below.refl _ _).alloc (Nat.le_refl _) _).trans (hb2.mono (by simp)))⟩
              case measure => simp [intOf]; omega
            · obtain rfl : j = m.length := by omega
              have HT2 := Lib.hid (show m.take m.length = m from List.take_length)
              have hb := hW.below
              go_wp2_with fail
              go_ret
              exact ⟨by simp only [HT2.out, Vl.depth]; rw [if_pos HK.out]; rfl, hb⟩
  · have h4 : ¬ k = 4 := fun h => hk (.inl h)
    have h5 : ¬ k = 5 := fun h => hk (.inr h)
    have t4 : (k == 4) = false := by simpa using h4
    have t5 : (k == 5) = false := by simpa using h5
    have u4 : (k != 4) = true := by simpa using h4
    have u5 : (k != 5) = true := by simpa using h5
    have HK := Lib.hid hk
    clear hk h4 h5
    go_enter Tryz.func41, Tryz.ntmps41
    go_wp2_with fail
    go_ret
    exact ⟨by simp only [Vl.depth]; rw [if_neg HK.out]; rfl, (Below.refl _ _).alloc (Nat.le_refl _) _⟩

end Go.Proofs.YtjjenpmahmbafaaGreatDoor

namespace Go.Proofs.YtjjenpmahmbafaaGreatDoor
open Go.RowKit Js
end Go.Proofs.YtjjenpmahmbafaaGreatDoor

namespace Go.Proofs.YtjjenpmahmbafaaGreatDoor
open Go.RowKit Js
end Go.Proofs.YtjjenpmahmbafaaGreatDoor


