/- Wa: Wa Wb, in one text. -/
import Derived.Test.YtolkfgikomminaaGreatDoorRows
import Derived.Test.YtolkfgikomminaaGreatDoorMa
import Derived.WalkKit
import Derived.WalkSpells
import Derived.WalkLawsBesides
import Derived.Deep.QuietTactic
import Derived.BigQuiet
import Derived.RegionTactic
import Derived.Lib.TrimByte
import Derived.Lib.Hide
import Derived.Test.YtolkfgikomminaaGreatDoorShelf
import Derived.Deep.RegionHeld3
import Derived.WalkSmall
namespace Go.Proofs.YtolkfgikomminaaGreatDoor
open Go.RowKit

set_option maxHeartbeats 400000 in
theorem cutDigits_any (s : ByteArray) (w : World) (hs : s.size ≤ maxLen) :
  Calls Tryz.prog 100 #[.string s] w fun e w' => e = .returned (.tuple #[.string ⟨(Nm.pre s.data.toList).toArray⟩, .string ⟨(Nm.suf s.data.toList).toArray⟩]) ∧ w' = w.drew := by
 unfold maxLen at hs
 go_enter Tryz.func100, Tryz.ntmps100
 go_wp2
 go_loop [4] (fun i => ∃ k : Nat, k ≤ s.size ∧ i = .int .i64 k ∧ ∀ (j : Nat) b, j < k → s.data.toList[j]? = some b → Nm.dig b = true) (fun i => s.size - (intOf i).toNat)
 case atStart => exact ⟨0, Nat.zero_le _, rfl, fun j b hj => absurd hj (Nat.not_lt_zero _)⟩
 case round =>
  obtain ⟨k, hk, rfl, hc⟩ := hrel
  have hK : Lib.Kept (∀ (j : Nat) b, j < k → s.data.toList[j]? = some b → Nm.dig b = true) := hc
  clear hc
  by_cases hlt : k < s.size
  ·have hg : Lib.Kept (s.data.toList[k]? = some s[k]) := by rw [List.getElem?_eq_getElem (by rw [← Lib.size_eq]; exact hlt)]; rfl
   by_cases hd : Nm.dig s[k] = true
   ·have hd' := hd
    simp only [Nm.dig, Bool.and_eq_true, decide_eq_true_eq] at hd'
    obtain ⟨hd1, hd2⟩ := hd'
    have HD := Lib.hid hd
    clear hd
    go_wp2
    go_round
    case rel => exact ⟨k + 1, by omega, by go_num, fun j b hj hb => (by
     by_cases e : j = k
     ·subst e; rw [hg] at hb; rw [← Option.some.inj hb]; exact HD.out
     ·exact hK j b (by omega) hb)⟩
    case measure => simp [intOf]; omega
   ·have hp := Nm.takeWhile_take Nm.dig s.data.toList k (by rw [← Lib.size_eq]; omega) hK (fun b hb => by rw [hg] at hb; rw [← Option.some.inj hb]; simpa using hd)
    have HP := Lib.hid hp
    clear hp
    have hd' : s[k].toNat < 48 ∨ 57 < s[k].toNat := by
     simp only [Nm.dig, Bool.and_eq_true, decide_eq_true_eq] at hd; omega
    clear hd
    rcases hd' with hd' | hd'
    all_goals
     go_wp2
     go_region
     go_wp2
     go_ret2
     refine ⟨?_, rfl⟩
     show Ending.returned (Value.tuple #[Value.string (s.extract 0 k), Value.string (s.extract k s.size)]) = _
     rw [Lib.extract_upto, Lib.extract_from, Nm.pre, Nm.suf, HP.out.1, HP.out.2]
  ·have hp := Nm.takeWhile_take Nm.dig s.data.toList k (by rw [← Lib.size_eq]; omega) hK (fun b hb => by rw [List.getElem?_eq_none (by rw [← Lib.size_eq]; omega)] at hb; cases hb)
   have HP := Lib.hid hp
   clear hp
   go_wp2
   go_region
   go_wp2
   go_ret2
   refine ⟨?_, rfl⟩
   show Ending.returned (Value.tuple #[Value.string (s.extract 0 k), Value.string (s.extract k s.size)]) = _
   rw [Lib.extract_upto, Lib.extract_from, Nm.pre, Nm.suf, HP.out.1, HP.out.2]

set_option maxHeartbeats 400000 in
theorem cutSign_any (s : ByteArray) (w : World) (hs : s.size ≤ maxLen) :
  Calls Tryz.prog 101 #[.string s] w fun e w' => e = .returned (.tuple #[.bool (Nm.sgn s.data.toList), .string ⟨(Nm.unsgn s.data.toList).toArray⟩]) ∧ ∃ n, w' = w.drewN n := by
 unfold maxLen at hs
 by_cases h0 : 0 < s.size
 ·have hl := Nm.first_of s h0
  have HL := Lib.hid hl
  clear hl
  have e0 := Nm.some_list s h0
  have e1 := Nm.some_full s h0
  by_cases c45 : s[0] = 45
  ·have b45 : ((s[0].toNat : Int) == 45) = true := Nm.byte_eq c45
   have C45 := Lib.hid c45
   clear c45
   go_enter Tryz.func101, Tryz.ntmps101
   go_wp2
   go_region
   go_wp2
   go_ret2
   refine ⟨?_, 1, rfl⟩
   show Ending.returned (Value.tuple #[Value.bool _, Value.string (s.extract 1 s.size)]) = _
   rw [Lib.extract_from, HL.out]
   simp [Nm.sgn, Nm.unsgn, C45.out]
  ·have b45 : ((s[0].toNat : Int) == 45) = false := Nm.byte_ne c45
   have C45 := Lib.hid c45
   clear c45
   by_cases c43 : s[0] = 43
   ·have b43 : ((s[0].toNat : Int) == 43) = true := Nm.byte_eq c43
    have C43 := Lib.hid c43
    clear c43
    go_enter Tryz.func101, Tryz.ntmps101
    go_wp2
    go_region
    go_wp2
    go_ret2
    refine ⟨?_, 1, rfl⟩
    show Ending.returned (Value.tuple #[Value.bool _, Value.string (s.extract 1 s.size)]) = _
    rw [Lib.extract_from, HL.out]
    simp [Nm.sgn, Nm.unsgn, C43.out]
   ·have b43 : ((s[0].toNat : Int) == 43) = false := Nm.byte_ne c43
    have C43 := Lib.hid c43
    clear c43
    go_enter Tryz.func101, Tryz.ntmps101
    go_wp2
    go_ret2
    refine ⟨?_, 0, rfl⟩
    show Ending.returned (Value.tuple #[Value.bool false, Value.string s]) = _
    rw [HL.out]
    simp only [Nm.sgn, Nm.unsgn, C45.out, C43.out, or_self, if_false]
    rw [← HL.out, Lib.mk_data]
    simp [C45.out]
 ·have e0 := Nm.none_list s h0
  have e2 := Lib.hid (Nm.none_data s h0)
  go_enter Tryz.func101, Tryz.ntmps101
  go_wp2
  go_ret2
  refine ⟨?_, 0, rfl⟩
  show Ending.returned (Value.tuple #[Value.bool false, Value.string s]) = _
  rw [e2.out]
  simp only [Nm.sgn, Nm.unsgn]
  rw [← e2.out, Lib.mk_data]
end Go.Proofs.YtolkfgikomminaaGreatDoor

namespace Go.Proofs.YtolkfgikomminaaGreatDoor
open Go.RowKit

set_option maxHeartbeats 400000 in
theorem whole_any (neg : Bool) (ds : List UInt8) (x : Int) (w : World) :
  Calls Tryz.prog 74 #[.agg #[.bool neg, .string ⟨ds.toArray⟩, .int .i64 x]] w fun e w' => e = .returned (.bool (decide (0 ≤ x))) ∧ Below w.heap.size w w' := by
 go_enter Tryz.func74, Tryz.ntmps74
 go_wp2
 go_ret
 exact ⟨rfl, (Below.refl _ _).alloc (Nat.le_refl _) _⟩

set_option maxHeartbeats 400000 in
theorem sign_any (neg : Bool) (ds : List UInt8) (x : Int) (w : World) :
  Calls Tryz.prog 53 #[.agg #[.bool neg, .string ⟨ds.toArray⟩, .int .i64 x]] w fun e w' => e = .returned (.int .i64 (Nm.sign ⟨neg, ds, x⟩)) ∧ Below w.heap.size w w' := by
 cases ds with
 | nil =>
  go_enter Tryz.func53, Tryz.ntmps53
  go_wp2
  go_ret
  exact ⟨rfl, (Below.refl _ _).alloc (Nat.le_refl _) _⟩
 | cons c r =>
  cases neg
  all_goals
   go_enter Tryz.func53, Tryz.ntmps53
   go_wp2
   go_ret
   exact ⟨rfl, (Below.refl _ _).alloc (Nat.le_refl _) _⟩

set_option maxHeartbeats 400000 in
theorem cmpSize_any (na : Bool) (da : List UInt8) (xa : Int) (nb : Bool) (db : List UInt8) (xb : Int) (w : World) (ha : Nm.Fair ⟨na, da, xa⟩) (hb : Nm.Fair ⟨nb, db, xb⟩) :
  Calls Tryz.prog 54 #[.agg #[.bool na, .string ⟨da.toArray⟩, .int .i64 xa], .agg #[.bool nb, .string ⟨db.toArray⟩, .int .i64 xb]] w fun e w' => e = .returned (.int .i64 (Nm.cmpSize ⟨na, da, xa⟩ ⟨nb, db, xb⟩)) ∧ Below w.heap.size w w' := by
 obtain ⟨ha1, ha2, ha3⟩ := ha
 obtain ⟨hb1, hb2, hb3⟩ := hb
 simp only at ha1 ha2 ha3 hb1 hb2 hb3
 go_enter Tryz.func54, Tryz.ntmps54
 go_wp2_with fail
 refine (Tryz.cmp_Compare_int _ _ _).mono ?_
 rintro e w' ⟨rfl, rfl⟩
 generalize hc : Lib.compareInt (↑da.length + xa) (↑db.length + xb) = c
 have HC := Lib.hid hc
 clear hc
 by_cases h0 : c = 0
 ·subst h0
  go_wp2_with fail
  refine (Tryz.strings_Compare _ _ _).mono ?_
  rintro e w' ⟨rfl, rfl⟩
  go_wp2
  go_ret
  refine ⟨?_, ((Below.refl _ _).alloc (Nat.le_refl _) _).alloc (by simp) _⟩
  simp [Nm.cmpSize, HC.out]
 ·have h1 : (c == 0) = false := by simpa using h0
  have h2 : (c != 0) = true := by simpa using h0
  have H0 := Lib.hid h0
  clear h0
  go_wp2
  go_ret
  refine ⟨?_, ((Below.refl _ _).alloc (Nat.le_refl _) _).alloc (by simp) _⟩
  simp [Nm.cmpSize, HC.out, H0.out]

theorem below_two0 (w : World) (o1 o2 : Obj) : Below w.heap.size w ((w.alloc o1).alloc o2) := ((Below.refl _ _).alloc (Nat.le_refl _) _).alloc (by simp) _
theorem below_two1 (w : World) (o1 o2 : Obj) : Below w.heap.size w ((w.alloc o1).alloc o2).drew := (below_two0 w o1 o2).drew
theorem below_two2 (w : World) (o1 o2 : Obj) : Below w.heap.size w ((w.alloc o1).alloc o2).drew.drew := (below_two0 w o1 o2).drew.drew
theorem below_twoN (w : World) (o1 o2 : Obj) (n : Nat) : Below w.heap.size w (((w.alloc o1).alloc o2).drewN n) := below_drewN (below_two0 w o1 o2) n
theorem below_set {w W : World} (h : Below w.heap.size w W) {b : Nat} (hb : w.heap.size ≤ b) (o : Nat) (v : Value) : Below w.heap.size w (W.setCell ⟨b, o, none⟩ v) := h.setCell hb v

theorem bcell {W w1 : World} (hb : Below W.heap.size W w1) : (∀ b o, b < W.heap.size → w1.cell? ⟨b, o, none⟩ = W.cell? ⟨b, o, none⟩) ∧ (∀ b o, b < W.heap.size → w1.frozen? ⟨b, o, none⟩ = W.frozen? ⟨b, o, none⟩) :=
 ⟨fun b o h => hb.cell (p := ⟨b, o, none⟩) h, fun b o h => hb.frozen (p := ⟨b, o, none⟩) h⟩

def NumAt (w : World) (b : Nat) (n : Bool) (d : List UInt8) (x : Int) : Prop :=
 w.cell? ⟨b, 0, none⟩ = some (.bool n) ∧ w.cell? ⟨b, 1, none⟩ = some (.string ⟨d.toArray⟩) ∧ w.cell? ⟨b, 2, none⟩ = some (.int .i64 x)

theorem NumAt.keep {W w1 : World} {b : Nat} {n : Bool} {d : List UInt8} {x : Int} {k : Nat} (h : NumAt W b n d x) (hb : Below k W w1) (hk : b < k) : NumAt w1 b n d x :=
 ⟨(hb.cell (p := ⟨b, 0, none⟩) hk).trans h.1, (hb.cell (p := ⟨b, 1, none⟩) hk).trans h.2.1, (hb.cell (p := ⟨b, 2, none⟩) hk).trans h.2.2⟩

def TwoAt (w : World) (na : Bool) (da : List UInt8) (xa : Int) (nb : Bool) (db : List UInt8) (xb : Int) (w' : World) : Prop :=
 (w'.cell? ⟨w.heap.size, 0, none⟩ = some (.bool na) ∧ w'.cell? ⟨w.heap.size, 1, none⟩ = some (.string ⟨da.toArray⟩) ∧ w'.cell? ⟨w.heap.size, 2, none⟩ = some (.int .i64 xa)) ∧
  (w'.cell? ⟨w.heap.size + 1, 0, none⟩ = some (.bool nb) ∧ w'.cell? ⟨w.heap.size + 1, 1, none⟩ = some (.string ⟨db.toArray⟩) ∧ w'.cell? ⟨w.heap.size + 1, 2, none⟩ = some (.int .i64 xb)) ∧ Below w.heap.size w w' ∧ w.heap.size + 2 ≤ w'.heap.size

theorem TwoAt.keep {w : World} {na : Bool} {da : List UInt8} {xa : Int} {nb : Bool} {db : List UInt8} {xb : Int} {W w1 : World} (h : TwoAt w na da xa nb db xb W) (hb : Below W.heap.size W w1) : TwoAt w na da xa nb db xb w1 := by
 obtain ⟨h1, h2, h3, h4⟩ := h
 exact ⟨NumAt.keep h1 hb (by omega), NumAt.keep h2 hb (by omega), h3.trans (hb.mono (by omega)), by have := hb.size; omega⟩

theorem TwoAt.start (w : World) (na : Bool) (da : List UInt8) (xa : Int) (nb : Bool) (db : List UInt8) (xb : Int) (t : TypeId) :
  TwoAt w na da xa nb db xb ((w.alloc (.cells #[.bool na, .string ⟨da.toArray⟩, .int .i64 xa] t)).alloc (.cells #[.bool nb, .string ⟨db.toArray⟩, .int .i64 xb] t)).drew := by
 refine ⟨⟨?_, ?_, ?_⟩, ⟨?_, ?_, ?_⟩, (((Below.refl _ _).alloc (Nat.le_refl _) _).alloc (by simp) _).drew, by simp⟩ <;> simp

set_option maxHeartbeats 400000 in
theorem cmp_any (na : Bool) (da : List UInt8) (xa : Int) (nb : Bool) (db : List UInt8) (xb : Int) (w : World) (ha : Nm.Fair ⟨na, da, xa⟩) (hb : Nm.Fair ⟨nb, db, xb⟩) :
  Calls Tryz.prog 24 #[.agg #[.bool na, .string ⟨da.toArray⟩, .int .i64 xa], .agg #[.bool nb, .string ⟨db.toArray⟩, .int .i64 xb]] w fun e w' => e = .returned (.int .i64 (Nm.cmp ⟨na, da, xa⟩ ⟨nb, db, xb⟩)) ∧ Below w.heap.size w w' := by
 have HA := Lib.hid ha
 have HB := Lib.hid hb
 clear ha hb
 go_enter Tryz.func24, Tryz.ntmps24
 go_wp2_with fail
 go_region_held3 (fun w' => (w'.cell? ⟨w.heap.size, 0, none⟩ = some (.bool na) ∧ w'.cell? ⟨w.heap.size, 1, none⟩ = some (.string ⟨da.toArray⟩) ∧ w'.cell? ⟨w.heap.size, 2, none⟩ = some (.int .i64 xa)) ∧
   (w'.cell? ⟨w.heap.size + 1, 0, none⟩ = some (.bool nb) ∧ w'.cell? ⟨w.heap.size + 1, 1, none⟩ = some (.string ⟨db.toArray⟩) ∧ w'.cell? ⟨w.heap.size + 1, 2, none⟩ = some (.int .i64 xb)) ∧ Below w.heap.size w w' ∧ w.heap.size + 2 ≤ w'.heap.size)
  (first | exact hs | exact TwoAt.start w na da xa nb db xb _)
  (first | (go_at_call 53; refine (sign_any _ _ _ _).mono ?_; rintro e w' ⟨rfl, hb⟩; have hs := TwoAt.keep (w := w) (na := na) (da := da) (xa := xa) (nb := nb) (db := db) (xb := xb) (by first | exact hs | exact TwoAt.start w na da xa nb db xb _) hb; clear hb) | (go_at_call 52; refine (Tryz.cmp_Compare_int _ _ _).mono ?_; rintro e w' ⟨rfl, rfl⟩))
 obtain ⟨⟨a1, a2, a3⟩, ⟨b1, b2, b3⟩, hbl, hsz⟩ := hs
 generalize hc : Lib.compareInt (Nm.sign ⟨na, da, xa⟩) (Nm.sign ⟨nb, db, xb⟩) = c
 have HC := Lib.hid hc
 clear hc
 by_cases h0 : c = 0
 ·subst h0
  cases na
  ·go_wp2_with fail
   refine (cmpSize_any _ _ _ _ _ _ _ HA.out HB.out).mono ?_
   rintro e w2 ⟨rfl, hb2⟩
   go_wp2
   go_ret
   refine ⟨?_, hbl.trans (hb2.mono (by omega))⟩
   simp [Nm.cmp, HC.out]
  ·go_wp2_with fail
   refine (cmpSize_any _ _ _ _ _ _ _ HB.out HA.out).mono ?_
   rintro e w2 ⟨rfl, hb2⟩
   go_wp2
   go_ret
   refine ⟨?_, hbl.trans (hb2.mono (by omega))⟩
   simp [Nm.cmp, HC.out]
 ·have h1 : (c == 0) = false := by simpa using h0
  have h2 : (c != 0) = true := by simpa using h0
  have H0 := Lib.hid h0
  clear h0
  go_wp2
  go_ret
  refine ⟨?_, hbl⟩
  simp [Nm.cmp, HC.out, H0.out]

end Go.Proofs.YtolkfgikomminaaGreatDoor


