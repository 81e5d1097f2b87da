/- The walks of layer 1 (num), second part: sign, Whole, cmpSize, Cmp. -/
import Derived.Test.YtfolfibembplbaaDoorWa
import Derived.Test.YtfolfibembplbaaDoorShelf
import Derived.Deep.RegionHeld3
import Derived.WalkSmall
namespace Go.Proofs.YtfolfibembplbaaDoor
open Go.RowKit

set_option maxHeartbeats 400000 in
theorem whole_any (neg : Bool) (ds : List UInt8) (x : Int) (w : World) :
    Calls Tryd.prog 21 #[.agg #[.bool neg, .string ⟨ds.toArray⟩, .int .i64 x]] w fun e w' => e = .returned (.bool (decide (0 ≤ x))) ∧ Below w.heap.size w w' := by
  go_enter Tryd.func21, Tryd.ntmps21
  go_wp2
  go_ret
  exact ⟨rfl, (Below.refl _ _).alloc (Nat.le_refl _) _⟩

set_option maxHeartbeats 400000 in
theorem sign_any (neg : Bool) (ds : List UInt8) (x : Int) (w : World) :
    Calls Tryd.prog 34 #[.agg #[.bool neg, .string ⟨ds.toArray⟩, .int .i64 x]] w fun e w' => e = .returned (.int .i64 (Nm.sign ⟨neg, ds, x⟩)) ∧ Below w.heap.size w w' := by
  cases ds with
  | nil =>
    go_enter Tryd.func34, Tryd.ntmps34
    go_wp2
    go_ret
    exact ⟨rfl, (Below.refl _ _).alloc (Nat.le_refl _) _⟩
  | cons c r =>
    cases neg
    all_goals
      go_enter Tryd.func34, Tryd.ntmps34
      go_wp2
      go_ret
      exact ⟨rfl, (Below.refl _ _).alloc (Nat.le_refl _) _⟩

set_option maxHeartbeats 400000 in
theorem cmpSize_any (na : Bool) (da : List UInt8) (xa : Int) (nb : Bool) (db : List UInt8) (xb : Int) (w : World) (ha : Nm.Fair ⟨na, da, xa⟩) (hb : Nm.Fair ⟨nb, db, xb⟩) :
    Calls Tryd.prog 35 #[.agg #[.bool na, .string ⟨da.toArray⟩, .int .i64 xa], .agg #[.bool nb, .string ⟨db.toArray⟩, .int .i64 xb]] w fun e w' => e = .returned (.int .i64 (Nm.cmpSize ⟨na, da, xa⟩ ⟨nb, db, xb⟩)) ∧ Below w.heap.size w w' := by
  obtain ⟨ha1, ha2, ha3⟩ := ha
  obtain ⟨hb1, hb2, hb3⟩ := hb
  simp only at ha1 ha2 ha3 hb1 hb2 hb3
  go_enter Tryd.func35, Tryd.ntmps35
  go_wp2_with fail
  refine (Tryd.cmp_Compare_int _ _ _).mono ?_
  rintro e w' ⟨rfl, rfl⟩
  generalize hc : Lib.compareInt (↑da.length + xa) (↑db.length + xb) = c
  have HC := Lib.hid hc
  clear hc
  by_cases h0 : c = 0
  · subst h0
    go_wp2_with fail
    refine (Tryd.strings_Compare _ _ _).mono ?_
    rintro e w' ⟨rfl, rfl⟩
    go_wp2
    go_ret
    refine ⟨?_, ((Below.refl _ _).alloc (Nat.le_refl _) _).alloc (by simp) _⟩
    simp [Nm.cmpSize, HC.out]
  · have h1 : (c == 0) = false := by simpa using h0
    have h2 : (c != 0) = true := by simpa using h0
    have H0 := Lib.hid h0
    clear h0
    go_wp2
    go_ret
    refine ⟨?_, ((Below.refl _ _).alloc (Nat.le_refl _) _).alloc (by simp) _⟩
    simp [Nm.cmpSize, HC.out, H0.out]

/-- Two new blocks, and draws: what is older is as it was. -/
theorem below_two0 (w : World) (o1 o2 : Obj) : Below w.heap.size w ((w.alloc o1).alloc o2) := ((Below.refl _ _).alloc (Nat.le_refl _) _).alloc (by simp) _
theorem below_two1 (w : World) (o1 o2 : Obj) : Below w.heap.size w ((w.alloc o1).alloc o2).drew := (below_two0 w o1 o2).drew
theorem below_two2 (w : World) (o1 o2 : Obj) : Below w.heap.size w ((w.alloc o1).alloc o2).drew.drew := (below_two0 w o1 o2).drew.drew
theorem below_twoN (w : World) (o1 o2 : Obj) (n : Nat) : Below w.heap.size w (((w.alloc o1).alloc o2).drewN n) := below_drewN (below_two0 w o1 o2) n
theorem below_twoNd (w : World) (o1 o2 : Obj) (n : Nat) : Below w.heap.size w (((w.alloc o1).alloc o2).drewN n).drew := (below_drewN (below_two0 w o1 o2) n).drew

theorem below_set {w W : World} (h : Below w.heap.size w W) {b : Nat} (hb : w.heap.size ≤ b) (o : Nat) (v : Value) : Below w.heap.size w (W.setCell ⟨b, o, none⟩ v) := h.setCell hb v

/-- Behind a call that changes nothing older: all older cells and marks read as before. -/
theorem bcell {W w1 : World} (hb : Below W.heap.size W w1) : (∀ b o, b < W.heap.size → w1.cell? ⟨b, o, none⟩ = W.cell? ⟨b, o, none⟩) ∧ (∀ b o, b < W.heap.size → w1.frozen? ⟨b, o, none⟩ = W.frozen? ⟨b, o, none⟩) :=
  ⟨fun b o h => hb.cell (p := ⟨b, o, none⟩) h, fun b o h => hb.frozen (p := ⟨b, o, none⟩) h⟩

/-- The cells of a number that lies in a block, in a world. -/
def NumAt (w : World) (b : Nat) (n : Bool) (d : List UInt8) (x : Int) : Prop :=
  w.cell? ⟨b, 0, none⟩ = some (.bool n) ∧ w.cell? ⟨b, 1, none⟩ = some (.string ⟨d.toArray⟩) ∧ w.cell? ⟨b, 2, none⟩ = some (.int .i64 x)

theorem NumAt.keep {W w1 : World} {b : Nat} {n : Bool} {d : List UInt8} {x : Int} {k : Nat} (h : NumAt W b n d x) (hb : Below k W w1) (hk : b < k) : NumAt w1 b n d x :=
  ⟨(hb.cell (p := ⟨b, 0, none⟩) hk).trans h.1, (hb.cell (p := ⟨b, 1, none⟩) hk).trans h.2.1, (hb.cell (p := ⟨b, 2, none⟩) hk).trans h.2.2⟩

/-- Two numbers that a call has boxed, one behind the other; what is older is as it was. -/
def TwoAt (w : World) (na : Bool) (da : List UInt8) (xa : Int) (nb : Bool) (db : List UInt8) (xb : Int) (w' : World) : Prop :=
  (w'.cell? ⟨w.heap.size, 0, none⟩ = some (.bool na) ∧ w'.cell? ⟨w.heap.size, 1, none⟩ = some (.string ⟨da.toArray⟩) ∧ w'.cell? ⟨w.heap.size, 2, none⟩ = some (.int .i64 xa)) ∧
    (w'.cell? ⟨w.heap.size + 1, 0, none⟩ = some (.bool nb) ∧ w'.cell? ⟨w.heap.size + 1, 1, none⟩ = some (.string ⟨db.toArray⟩) ∧ w'.cell? ⟨w.heap.size + 1, 2, none⟩ = some (.int .i64 xb)) ∧ Below w.heap.size w w' ∧ w.heap.size + 2 ≤ w'.heap.size

theorem TwoAt.keep {w : World} {na : Bool} {da : List UInt8} {xa : Int} {nb : Bool} {db : List UInt8} {xb : Int} {W w1 : World} (h : TwoAt w na da xa nb db xb W) (hb : Below W.heap.size W w1) : TwoAt w na da xa nb db xb w1 := by
  obtain ⟨h1, h2, h3, h4⟩ := h
  exact ⟨NumAt.keep h1 hb (by omega), NumAt.keep h2 hb (by omega), h3.trans (hb.mono (by omega)), by have := hb.size; omega⟩

theorem TwoAt.start (w : World) (na : Bool) (da : List UInt8) (xa : Int) (nb : Bool) (db : List UInt8) (xb : Int) (t : TypeId) :
    TwoAt w na da xa nb db xb ((w.alloc (.cells #[.bool na, .string ⟨da.toArray⟩, .int .i64 xa] t)).alloc (.cells #[.bool nb, .string ⟨db.toArray⟩, .int .i64 xb] t)).drew := by
  refine ⟨⟨?_, ?_, ?_⟩, ⟨?_, ?_, ?_⟩, (((Below.refl _ _).alloc (Nat.le_refl _) _).alloc (by simp) _).drew, by simp⟩ <;> simp

set_option maxHeartbeats 400000 in
theorem cmp_any (na : Bool) (da : List UInt8) (xa : Int) (nb : Bool) (db : List UInt8) (xb : Int) (w : World) (ha : Nm.Fair ⟨na, da, xa⟩) (hb : Nm.Fair ⟨nb, db, xb⟩) :
    Calls Tryd.prog 22 #[.agg #[.bool na, .string ⟨da.toArray⟩, .int .i64 xa], .agg #[.bool nb, .string ⟨db.toArray⟩, .int .i64 xb]] w fun e w' => e = .returned (.int .i64 (Nm.cmp ⟨na, da, xa⟩ ⟨nb, db, xb⟩)) ∧ Below w.heap.size w w' := by
  have HA := Lib.hid ha
  have HB := Lib.hid hb
  clear ha hb
  go_enter Tryd.func22, Tryd.ntmps22
  go_wp2_with fail
  go_region_held3 (fun w' => (w'.cell? ⟨w.heap.size, 0, none⟩ = some (.bool na) ∧ w'.cell? ⟨w.heap.size, 1, none⟩ = some (.string ⟨da.toArray⟩) ∧ w'.cell? ⟨w.heap.size, 2, none⟩ = some (.int .i64 xa)) ∧
      (w'.cell? ⟨w.heap.size + 1, 0, none⟩ = some (.bool nb) ∧ w'.cell? ⟨w.heap.size + 1, 1, none⟩ = some (.string ⟨db.toArray⟩) ∧ w'.cell? ⟨w.heap.size + 1, 2, none⟩ = some (.int .i64 xb)) ∧ Below w.heap.size w w' ∧ w.heap.size + 2 ≤ w'.heap.size)
    (first | exact hs | exact TwoAt.start w na da xa nb db xb _)
    (first | (go_at_call 34; refine (sign_any _ _ _ _).mono ?_; rintro e w' ⟨rfl, hb⟩; have hs := TwoAt.keep (w := w) (na := na) (da := da) (xa := xa) (nb := nb) (db := db) (xb := xb) (by first | exact hs | exact TwoAt.start w na da xa nb db xb _) hb; clear hb) | (go_at_call 33; refine (Tryd.cmp_Compare_int _ _ _).mono ?_; rintro e w' ⟨rfl, rfl⟩))
  obtain ⟨⟨a1, a2, a3⟩, ⟨b1, b2, b3⟩, hbl, hsz⟩ := hs
  generalize hc : Lib.compareInt (Nm.sign ⟨na, da, xa⟩) (Nm.sign ⟨nb, db, xb⟩) = c
  have HC := Lib.hid hc
  clear hc
  by_cases h0 : c = 0
  · subst h0
    cases na
    · go_wp2_with fail
      refine (cmpSize_any _ _ _ _ _ _ _ HA.out HB.out).mono ?_
      rintro e w2 ⟨rfl, hb2⟩
      go_wp2
      go_ret
      refine ⟨?_, hbl.trans (hb2.mono (by omega))⟩
      simp [Nm.cmp, HC.out]
    · go_wp2_with fail
      refine (cmpSize_any _ _ _ _ _ _ _ HB.out HA.out).mono ?_
      rintro e w2 ⟨rfl, hb2⟩
      go_wp2
      go_ret
      refine ⟨?_, hbl.trans (hb2.mono (by omega))⟩
      simp [Nm.cmp, HC.out]
  · have h1 : (c == 0) = false := by simpa using h0
    have h2 : (c != 0) = true := by simpa using h0
    have H0 := Lib.hid h0
    clear h0
    go_wp2
    go_ret
    refine ⟨?_, hbl⟩
    simp [Nm.cmp, HC.out, H0.out]

end Go.Proofs.YtfolfibembplbaaDoor

