/- The walks of the document's answers of layer 1, third part: Less, Cmp. -/
import Derived.Test.YtbcoakonjgakbaaDoorTb
import Derived.Test.YtbcoakonjgakbaaDoorPureh
namespace Go.Proofs.YtbcoakonjgakbaaDoor
open Go.RowKit

theorem TwoAt.start0 (w : World) (na : Bool) (da : List UInt8) (xa : Int) (nb : Bool) (db : List UInt8) (xb : Int) (t : TypeId) :
    TwoAt w na da xa nb db xb ((w.alloc (.cells #[.bool na, .string ⟨da.toArray⟩, .int .i64 xa] t)).alloc (.cells #[.bool nb, .string ⟨db.toArray⟩, .int .i64 xb] t)) := by
  refine ⟨⟨?_, ?_, ?_⟩, ⟨?_, ?_, ?_⟩, below_two0 _ _ _, by simp⟩ <;> simp

theorem TwoAt.drew {w : World} {na : Bool} {da : List UInt8} {xa : Int} {nb : Bool} {db : List UInt8} {xb : Int} {W : World} (h : TwoAt w na da xa nb db xb W) : TwoAt w na da xa nb db xb W.drew := h.keep (Below.refl _ W).drew

set_option maxHeartbeats 1000000 in
theorem less_same (ng : Bool) (da : List UInt8) (xa : Int) (db : List UInt8) (xb : Int) (w : World) (ha : Nm.Small ⟨ng, da, xa⟩) (hb : Nm.Small ⟨ng, db, xb⟩) :
    Calls Tryd.prog 40 #[.agg #[.bool ng, .string ⟨da.toArray⟩, .int .i64 xa], .agg #[.bool ng, .string ⟨db.toArray⟩, .int .i64 xb]] w fun e w' => e = .returned (.bool (Nm.less ⟨ng, da, xa⟩ ⟨ng, db, xb⟩)) ∧ Below w.heap.size w w' := by
  obtain ⟨ha1, ha2, ha3⟩ := ha
  obtain ⟨hb1, hb2, hb3⟩ := hb
  simp only at ha1 ha2 ha3 hb1 hb2 hb3
  generalize hlo : min xa xb = lo
  have hl1 : lo ≤ xa := by omega
  have hl2 : lo ≤ xb := by omega
  have hl3 : -1000 ≤ lo := by omega
  have hwa : IntKind.i64.wrap (xa - lo) = xa - lo := IntWalk.i64_in _ (by omega)
  have hwb : IntKind.i64.wrap (xb - lo) = xb - lo := IntWalk.i64_in _ (by omega)
  have haa := fun W => cat_mk W da (List.replicate (xa - lo).toNat 48) (by rw [List.length_replicate]; omega)
  have hab := fun W => cat_mk W db (List.replicate (xb - lo).toNat 48) (by rw [List.length_replicate]; omega)
  have hza : (List.replicate (xa - lo).toNat (48 : UInt8)).length ≤ 2000 := by rw [List.length_replicate]; omega
  have hzb : (List.replicate (xb - lo).toNat (48 : UInt8)).length ≤ 2000 := by rw [List.length_replicate]; omega
  generalize hqa : List.replicate (xa - lo).toNat (48 : UInt8) = qa at haa hza
  generalize hqb : List.replicate (xb - lo).toNat (48 : UInt8) = qb at hab hzb
  have HQA := Lib.hid hqa
  have HQB := Lib.hid hqb
  have HLO := Lib.hid hlo
  clear hqa hqb
  have ht := TwoAt.start w ng da xa ng db xb 24
  have HT2 := Lib.hid ht
  clear ht
  go_enter Tryd.func40, Tryd.ntmps40
  go_wp2_with fail
  go_region_held3 (fun w' => (w'.cell? ⟨w.heap.size, 0, none⟩ = some (.bool ng) ∧ w'.cell? ⟨w.heap.size, 1, none⟩ = some (.string ⟨da.toArray⟩) ∧ w'.cell? ⟨w.heap.size, 2, none⟩ = some (.int .i64 xa)) ∧ (w'.cell? ⟨w.heap.size + 1, 0, none⟩ = some (.bool ng) ∧ w'.cell? ⟨w.heap.size + 1, 1, none⟩ = some (.string ⟨db.toArray⟩) ∧ w'.cell? ⟨w.heap.size + 1, 2, none⟩ = some (.int .i64 xb)) ∧ Below w.heap.size w w' ∧ w.heap.size + 2 ≤ w'.heap.size)
    ((show TwoAt w ng da xa ng db xb _; with_reducible first | exact HT2.out | exact TwoAt.drew HT2.out))
    (first | (go_at_call 60; refine (zeros_any (xa - lo) _ (by omega) (by omega)).mono ?_; rw [HQA.out]; rintro e w' ⟨rfl, rfl⟩))
  go_wp2_with fail
  go_region_held3 (fun w' => (w'.cell? ⟨w.heap.size, 0, none⟩ = some (.bool ng) ∧ w'.cell? ⟨w.heap.size, 1, none⟩ = some (.string ⟨da.toArray⟩) ∧ w'.cell? ⟨w.heap.size, 2, none⟩ = some (.int .i64 xa)) ∧ (w'.cell? ⟨w.heap.size + 1, 0, none⟩ = some (.bool ng) ∧ w'.cell? ⟨w.heap.size + 1, 1, none⟩ = some (.string ⟨db.toArray⟩) ∧ w'.cell? ⟨w.heap.size + 1, 2, none⟩ = some (.int .i64 xb)) ∧ Below w.heap.size w w' ∧ w.heap.size + 2 ≤ w'.heap.size)
    ((show TwoAt w ng da xa ng db xb _; with_reducible first | exact HT2.out | exact TwoAt.drew HT2.out))
    (first | (go_at_call 60; refine (zeros_any (xb - lo) _ (by omega) (by omega)).mono ?_; rw [HQB.out]; rintro e w' ⟨rfl, rfl⟩))
  have HE := Lib.hid (show Nm.less ⟨ng, da, xa⟩ ⟨ng, db, xb⟩ = if ng then Nm.shorter (if db.isEmpty then [] else db ++ qb) (if da.isEmpty then [] else da ++ qa) else Nm.shorter (if da.isEmpty then [] else da ++ qa) (if db.isEmpty then [] else db ++ qb) by
    rw [← HQA.out, ← HQB.out, ← HLO.out]
    unfold Nm.less Nm.full
    rw [if_pos rfl])
  clear HT2 HQA HQB hlo
  rcases da with _ | ⟨ca, ra⟩ <;> rcases db with _ | ⟨cb, rb⟩ <;> cases ng
  case cons.cons.false =>
    by_cases hlen : ra.length + qa.length + 1 = rb.length + qb.length + 1
    · have hbne : (((ra.length : Int) + qa.length + 1 : Int) != rb.length + qb.length + 1) = false := by simp; omega
      go_wp2_with fail
      go_ret
      refine ⟨?_, below_two2 _ _ _⟩
      rw [HE.out]
      simp [Nm.shorter, hlen]
    · have hbne : (((ra.length : Int) + qa.length + 1 : Int) != rb.length + qb.length + 1) = true := by simp; omega
      go_wp2_with fail
      go_ret
      refine ⟨?_, below_two2 _ _ _⟩
      rw [HE.out]
      simp [Nm.shorter]
      rw [if_neg (by omega)]
      simp only [decide_eq_decide]
      omega
  case cons.cons.true =>
    by_cases hlen : rb.length + qb.length + 1 = ra.length + qa.length + 1
    · have hbne : (((rb.length : Int) + qb.length + 1 : Int) != ra.length + qa.length + 1) = false := by simp; omega
      go_wp2_with fail
      go_ret
      refine ⟨?_, below_two2 _ _ _⟩
      rw [HE.out]
      simp [Nm.shorter, hlen]
    · have hbne : (((rb.length : Int) + qb.length + 1 : Int) != ra.length + qa.length + 1) = true := by simp; omega
      go_wp2_with fail
      go_ret
      refine ⟨?_, below_two2 _ _ _⟩
      rw [HE.out]
      simp [Nm.shorter]
      rw [if_neg (by omega)]
      simp only [decide_eq_decide]
      omega
  all_goals
    go_wp2_with fail
    go_ret
    refine ⟨?_, below_two2 _ _ _⟩
    rw [HE.out]
    simp [Nm.shorter, Op.bytesLess]
    try omega

set_option maxHeartbeats 400000 in
theorem refLess_any (na : Bool) (da : List UInt8) (xa : Int) (nb : Bool) (db : List UInt8) (xb : Int) (w : World) (ha : Nm.Small ⟨na, da, xa⟩) (hb : Nm.Small ⟨nb, db, xb⟩) :
    Calls Tryd.prog 40 #[.agg #[.bool na, .string ⟨da.toArray⟩, .int .i64 xa], .agg #[.bool nb, .string ⟨db.toArray⟩, .int .i64 xb]] w fun e w' => e = .returned (.bool (Nm.less ⟨na, da, xa⟩ ⟨nb, db, xb⟩)) ∧ Below w.heap.size w w' := by
  by_cases h : na = nb
  · subst h; exact less_same na da xa db xb w ha hb
  · have HE := Lib.hid (show Nm.less ⟨na, da, xa⟩ ⟨nb, db, xb⟩ = na by unfold Nm.less; rw [if_neg h])
    rw [HE.out]
    cases na <;> cases nb
    · exact absurd rfl h
    · go_enter Tryd.func40, Tryd.ntmps40
      go_wp2_with fail
      go_ret
      exact ⟨rfl, below_two0 _ _ _⟩
    · go_enter Tryd.func40, Tryd.ntmps40
      go_wp2_with fail
      go_ret
      exact ⟨rfl, below_two0 _ _ _⟩
    · exact absurd rfl h

set_option maxHeartbeats 400000 in
theorem refCmp_any (na : Bool) (da : List UInt8) (xa : Int) (nb : Bool) (db : List UInt8) (xb : Int) (w : World) (ha : Nm.Small ⟨na, da, xa⟩) (hb : Nm.Small ⟨nb, db, xb⟩) :
    Calls Tryd.prog 18 #[.agg #[.bool na, .string ⟨da.toArray⟩, .int .i64 xa], .agg #[.bool nb, .string ⟨db.toArray⟩, .int .i64 xb]] w
      fun e w' => e = .returned (.int .i64 (Nm.refCmp ⟨na, da, xa⟩ ⟨nb, db, xb⟩)) ∧ Below w.heap.size w w' := by
  have HA := Lib.hid ha
  have HB := Lib.hid hb
  have HT := Lib.hid (TwoAt.start0 w na da xa nb db xb 24)
  clear ha hb
  go_enter Tryd.func18, Tryd.ntmps18
  go_wp2_with fail
  refine (refLess_any _ _ _ _ _ _ _ HA.out HB.out).mono ?_
  rintro e w2 ⟨rfl, hb2⟩
  obtain ⟨⟨a1, a2, a3⟩, ⟨b1, b2, b3⟩, hbl, hsz⟩ := TwoAt.keep HT.out hb2
  clear hb2
  generalize h1 : Nm.less ⟨na, da, xa⟩ ⟨nb, db, xb⟩ = l1
  have H1 := Lib.hid h1
  clear h1
  go_wp2_with fail
  refine (refLess_any _ _ _ _ _ _ _ HB.out HA.out).mono ?_
  rintro e w3 ⟨rfl, hb3⟩
  generalize h2 : Nm.less ⟨nb, db, xb⟩ ⟨na, da, xa⟩ = l2
  have H2 := Lib.hid h2
  clear h2
  cases l1
  · cases l2
    all_goals
      go_wp2_with fail
      go_ret
      refine ⟨?_, hbl.trans (hb3.mono (by omega))⟩
      simp [Nm.refCmp, H1.out, H2.out]
  · go_wp2_with fail
    go_ret
    refine ⟨?_, hbl.trans (hb3.mono (by omega))⟩
    simp [Nm.refCmp, H1.out]

end Go.Proofs.YtbcoakonjgakbaaDoor
