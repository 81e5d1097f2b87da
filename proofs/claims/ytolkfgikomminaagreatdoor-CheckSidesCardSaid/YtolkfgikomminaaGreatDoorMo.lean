/- Mo: Mo Tf, in one text. -/
import Derived.Test.YtolkfgikomminaaGreatDoorWg
import Derived.Test.YtolkfgikomminaaGreatDoorMa
import Derived.Laws.Concat
import Derived.Deep.DeepFit
import Derived.IntWalk
import Derived.Deep.QuietTactic
import Derived.BigQuiet
import Derived.Deep.DeepCutAuto
namespace Go.Proofs.YtolkfgikomminaaGreatDoor
open Go.RowKit

set_option maxHeartbeats 400000 in
theorem run_any (s : ByteArray) (a : Int) (w : World) (hs : s.size ≤ 4000000000000000000) (h0 : 0 ≤ a) (h1 : a ≤ s.size) :
  Calls Tryz.prog 72 #[.string s, .int .i64 a] w fun e w' => e = .returned (.int .i64 (Nm.pre (s.data.toList.drop a.toNat)).length) ∧ w = w' := by
 obtain ⟨at', rfl⟩ := Int.eq_ofNat_of_zero_le h0
 rw [Int.toNat_natCast]
 have h1' : at' ≤ s.size := by omega
 clear h0 h1
 have hl : (s.data.toList.drop at').length = s.size - at' := by rw [List.length_drop, ← Lib.size_eq]
 have HL := Lib.hid hl
 clear hl
 go_enter Tryz.func72, Tryz.ntmps72
 go_wp2
 go_loop [5] (fun i => ∃ k : Nat, at' + k ≤ s.size ∧ i = .int .i64 k ∧ ∀ (j : Nat) b, j < k → (s.data.toList.drop at')[j]? = some b → Nm.dig b = true) (fun i => s.size - at' - (intOf i).toNat)
 case atStart => exact ⟨0, by omega, rfl, fun j b hj => absurd hj (Nat.not_lt_zero _)⟩
 case round =>
  obtain ⟨k, hk, rfl, hc⟩ := hrel
  have hK : Lib.Kept (∀ (j : Nat) b, j < k → (s.data.toList.drop at')[j]? = some b → Nm.dig b = true) := hc
  clear hc
  by_cases hlt : at' + k < s.size
  ·have hg : Lib.Kept ((s.data.toList.drop at')[k]? = some s[at' + k]) := by
    rw [List.getElem?_drop, List.getElem?_eq_getElem (by rw [← Lib.size_eq]; exact hlt)]; rfl
   by_cases hd : Nm.dig s[at' + k] = true
   ·have hd' := hd
    simp only [Nm.dig, Bool.and_eq_true, decide_eq_true_eq] at hd'
    obtain ⟨hd1, hd2⟩ := hd'
    have HD := Lib.hid hd
    clear hd
    go_wp2
    go_round
    case rel => exact ⟨k + 1, by omega, by go_num, fun j b hj hb => (by
     by_cases e : j = k
     ·subst e; rw [hg] at hb; rw [← Option.some.inj hb]; exact HD.out
     ·exact hK j b (by omega) hb)⟩
    case measure => simp [intOf]; omega
   ·have hp := Nm.takeWhile_take Nm.dig (s.data.toList.drop at') k (by rw [HL.out]; omega) hK (fun b hb => by rw [hg] at hb; rw [← Option.some.inj hb]; simpa using hd)
    have HP := Lib.hid (show (Nm.pre (s.data.toList.drop at')).length = k by rw [Nm.pre, hp.1, List.length_take, HL.out]; omega)
    clear hp
    have hd' : s[at' + k].toNat < 48 ∨ 57 < s[at' + k].toNat := by
     simp only [Nm.dig, Bool.and_eq_true, decide_eq_true_eq] at hd; omega
    clear hd
    rcases hd' with hd' | hd'
    all_goals
     go_wp2
     go_ret
     refine ⟨?_, rfl⟩
     rw [HP.out]
     rfl
  ·have hp := Nm.takeWhile_take Nm.dig (s.data.toList.drop at') k (by rw [HL.out]; omega) hK (fun b hb => by rw [List.getElem?_eq_none (by rw [HL.out]; omega)] at hb; cases hb)
   have HP := Lib.hid (show (Nm.pre (s.data.toList.drop at')).length = k by rw [Nm.pre, hp.1, List.length_take, HL.out]; omega)
   clear hp
   go_wp2
   go_ret
   refine ⟨?_, rfl⟩
   rw [HP.out]
   rfl

theorem snoc_mk (l : List UInt8) (c : UInt8) : (⟨l.toArray⟩ : ByteArray) ++ ⟨#[c]⟩ = ⟨(l ++ [c]).toArray⟩ := by
 rw [show (⟨#[c]⟩ : ByteArray) = ⟨[c].toArray⟩ from rfl, ByteArray.mk_append_mk]

set_option maxHeartbeats 400000 in
theorem zeros_any (n : Int) (w : World) (h0 : 0 ≤ n) (h1 : n ≤ 1000000) :
  Calls Tryz.prog 89 #[.int .i64 n] w fun e w' => e = .returned (.string ⟨(List.replicate n.toNat 48).toArray⟩) ∧ w = w' := by
 go_enter Tryz.func89, Tryz.ntmps89
 go_wp2
 go_loop [3, 4] (fun v i => ∃ k : Nat, (k : Int) ≤ n ∧ i = .int .i64 k ∧ v = .string ⟨(List.replicate k 48).toArray⟩) (fun _ i => n.toNat - (intOf i).toNat)
 case atStart => exact ⟨0, by omega, rfl, rfl⟩
 case round =>
  obtain ⟨k, hk, rfl, rfl⟩ := hrel
  generalize hq : List.replicate k (48 : UInt8) = q
  have HQ := Lib.hid hq
  have hql : q.length ≤ 1000000 := by rw [← hq, List.length_replicate]; omega
  have hadd : ∀ W : World, (Op.stringOp .add ⟨q.toArray⟩ ⟨#[48]⟩).run Tryz.prog W = .ok (.string ⟨(q ++ [48]).toArray⟩) W := fun W => by
   rw [run_string_add_sum W _ _ (by rw [Lib.size_mk]; simp [ByteArray.size]; omega), snoc_mk]
  clear hq
  by_cases hlt : (k : Int) < n
  ·go_wp2
   go_round
   case rel => exact ⟨k + 1, by omega, by go_num, by rw [List.replicate_succ', HQ.out]⟩
   case measure => simp [intOf]; omega
  ·go_wp2
   go_ret
   refine ⟨?_, rfl⟩
   have e : n.toNat = k := by omega
   show Ending.returned (Value.string ⟨q.toArray⟩) = _
   rw [← HQ.out]
   simp [e]

set_option maxHeartbeats 400000 in
theorem refWhole_any (neg : Bool) (ds : List UInt8) (x : Int) (w : World) :
  Calls Tryz.prog 65 #[.agg #[.bool neg, .string ⟨ds.toArray⟩, .int .i64 x]] w fun e w' => e = .returned (.bool (ds.isEmpty || decide (0 ≤ x))) ∧ Below w.heap.size w w' := by
 cases ds with
 | nil =>
  go_enter Tryz.func65, Tryz.ntmps65
  go_wp2
  go_ret
  exact ⟨rfl, (Below.refl _ _).alloc (Nat.le_refl _) _⟩
 | cons c r =>
  go_enter Tryz.func65, Tryz.ntmps65
  go_wp2
  go_ret
  exact ⟨by simp, (Below.refl _ _).alloc (Nat.le_refl _) _⟩

theorem one_byte (W : World) (b : Nat) (k : Int) (h : W.cell? ⟨b, 0, none⟩ = some (.int .u8 k)) (h0 : 0 ≤ k) (h1 : k < 256) :
  (convert 109 9 (.slice (some ⟨b, 0, none⟩) 1 1)).run Tryz.prog W = .ok (.string ⟨[UInt8.ofNat k.toNat].toArray⟩) W := by
 refine run_convert_bytes_back W 109 9 5 ⟨b, 0, none⟩ 1 [UInt8.ofNat k.toNat] Tryz.underlying109 Tryz.underlying5 Tryz.underlying9 ?_
 intro j hj
 have hj0 : j = 0 := by simpa using hj
 subst hj0
 have e : (UInt8.ofNat k.toNat).toNat = k.toNat := by rw [UInt8.toNat_ofNat']; omega
 show W.cell? (Addr.add ⟨b, 0, none⟩ 0) = _
 rw [show Addr.add ⟨b, 0, none⟩ 0 = ⟨b, 0, none⟩ from rfl, h]
 simp only [List.getElem_cons_zero, e]
 rw [Int.toNat_of_nonneg h0]

theorem cat_mk (W : World) (a b : List UInt8) (h : a.length + b.length ≤ 9223372036854775807) : (Op.stringOp .add ⟨a.toArray⟩ ⟨b.toArray⟩).run Tryz.prog W = .ok (.string ⟨(a ++ b).toArray⟩) W := by
 rw [run_string_add_sum W _ _ (by rw [Lib.size_mk, Lib.size_mk]; omega), ByteArray.mk_append_mk]

theorem dec_len (n : Nat) (h : n ≤ 1000000000000) : (Lib.decDigits n).length ≤ 21 := by
 have := Lib.itoa_length_le n (by omega) (by omega)
 rw [Nm.itoa_nat _ (by omega)] at this
 simpa using this

end Go.Proofs.YtolkfgikomminaaGreatDoor

namespace Go.Proofs.YtolkfgikomminaaGreatDoor
open Go.RowKit

theorem below_call0 (w : World) {w2 : World} (h : Below w.drew.heap.size w.drew w2) : Below w.heap.size w w2 := (Below.refl _ w).drew.trans h
theorem below_call1 (w : World) (o : Obj) {w2 : World} (h : Below (w.alloc o).drew.heap.size (w.alloc o).drew w2) : Below w.heap.size w w2 := ((Below.refl _ w).alloc (Nat.le_refl _) o).drew.trans (h.mono (by simp))

set_option maxRecDepth 10000 in
set_option maxHeartbeats 400000 in
theorem itoa_pos (m : Nat) : ∀ (k : Int) (w : World), k.toNat = m → 0 ≤ k → k ≤ 1000000000000 →
  Calls Tryz.prog 63 #[.int .i64 k] w fun e w' => e = .returned (.string ⟨(Lib.decDigits k.toNat).toArray⟩) ∧ Below w.heap.size w w' := by
 induction m using Nat.strongRecOn with
 | ind m ih =>
  intro k w hm h0 h1
  have IH := Lib.hid ih
  have HM := Lib.hid hm
  clear ih hm
  by_cases h10 : k < 10
  ·have HE := Lib.hid (Lib.decDigits_one (i := k.toNat) (by omega))
   have hcv := one_byte (w.alloc (.cells #[.int .u8 (48 + k)] 5)) w.heap.size (48 + k) (by simp) (by omega) (by omega)
   generalize hc : [UInt8.ofNat (48 + k).toNat] = l at hcv
   have HC := Lib.hid hc
   clear hc
   go_enter Tryz.func63, Tryz.ntmps63
   go_wp2_with fail
   go_ret
   refine ⟨?_, (Below.refl _ _).alloc (Nat.le_refl _) _⟩
   show Ending.returned (Value.string ⟨l.toArray⟩) = _
   rw [HE.out, ← HC.out, show (48 + k).toNat = 48 + k.toNat from by omega]
  ·have HE := Lib.hid (show Lib.decDigits k.toNat = Lib.decDigits (k / 10).toNat ++ [UInt8.ofNat (48 + k % 10).toNat] by
    rw [Lib.decDigits, dif_neg (by omega), show (k / 10).toNat = k.toNat / 10 from by omega, show (48 + k % 10).toNat = 48 + k.toNat % 10 from by omega])
   have hcv : ∀ W : World, W.cell? ⟨w.heap.size, 0, none⟩ = some (.int .u8 (48 + k % 10)) → (convert 109 9 (.slice (some ⟨w.heap.size, 0, none⟩) 1 1)).run Tryz.prog W = .ok (.string ⟨[UInt8.ofNat (48 + k % 10).toNat].toArray⟩) W := fun W h => one_byte W _ _ h (by omega) (by omega)
   have hcw : ∀ W : World, (convert 109 9 (.slice (some ⟨W.heap.size, 0, none⟩) 1 1)).run Tryz.prog (W.alloc (.cells #[.int .u8 (48 + k % 10)] 5)) = .ok (.string ⟨[UInt8.ofNat (48 + k % 10).toNat].toArray⟩) (W.alloc (.cells #[.int .u8 (48 + k % 10)] 5)) := fun W => one_byte _ _ _ (by simp) (by omega) (by omega)
   have hadd := fun W => cat_mk W (Lib.decDigits (k / 10).toNat) [UInt8.ofNat (48 + k % 10).toNat] (by have := dec_len (k / 10).toNat (by omega); simp; omega)
   generalize hc : [UInt8.ofNat (48 + k % 10).toNat] = l at hcv hcw hadd HE
   generalize hd : Lib.decDigits (k / 10).toNat = d at hadd HE
   have HD := Lib.hid hd
   clear hc hd
   have hq0 : 0 ≤ k / 10 := by omega
   have hq1 : k / 10 ≤ 1000000000000 := by omega
   have hr0 : 0 ≤ k % 10 := by omega
   have hr1 : k % 10 < 10 := by omega
   have hwq : k.tdiv 10 = k / 10 := Int.tdiv_eq_ediv_of_nonneg h0
   have hwr : k.tmod 10 = k % 10 := Int.tmod_eq_emod_of_nonneg h0
   have hw1 : IntKind.i64.wrap (k / 10) = k / 10 := IntWalk.i64_in _ (by omega)
   have hw2 : IntKind.i64.wrap (k % 10) = k % 10 := IntWalk.i64_in _ (by omega)
   have hw3 : IntKind.i64.wrap (48 + k % 10) = 48 + k % 10 := IntWalk.i64_in _ (by omega)
   have hw4 : IntKind.u8.wrap (48 + k % 10) = 48 + k % 10 := IntWalk.u8_in _ (by omega)
   go_enter Tryz.func63, Tryz.ntmps63
   go_wp2_with fail
   go_region_with (first | (go_at_call 63; refine (IH.out (k / 10).toNat (by have := HM.out; omega) (k / 10) _ rfl hq0 hq1).mono ?_; rw [HD.out]; rintro e w2 ⟨rfl, hb2⟩; have ht : Below w.heap.size w w2 := (by with_reducible first | exact below_call0 w hb2 | exact below_call1 w _ hb2); obtain ⟨hc2, hf2⟩ := bcell hb2))
   all_goals
    go_wp2_with fail
    go_ret
    refine ⟨?_, ?_⟩
    ·show Ending.returned (Value.string ⟨(d ++ l).toArray⟩) = _
     rw [HE.out]
    ·with_reducible first | exact ht | exact ht.alloc ht.size _

set_option maxHeartbeats 400000 in
theorem itoa_any (x : Int) (w : World) (h0 : -1000000 ≤ x) (h1 : x ≤ 1000000000000) :
  Calls Tryz.prog 63 #[.int .i64 x] w fun e w' => e = .returned (.string ⟨(Lib.itoa x).toArray⟩) ∧ Below w.heap.size w w' := by
 by_cases h : 0 ≤ x
 ·rw [Nm.itoa_nat x h]
  exact itoa_pos _ x w rfl h h1
 ·have hlt : x < 0 := by omega
  have hn0 : 0 ≤ -x := by omega
  have hn1 : -x ≤ 1000000000000 := by omega
  have HE := Lib.hid (show Lib.itoa x = [45] ++ Lib.decDigits (-x).toNat by
   unfold Lib.itoa; rw [if_pos hlt, show x.natAbs = (-x).toNat from by omega]; rfl)
  have hadd := fun W => cat_mk W [45] (Lib.decDigits (-x).toNat) (by have := dec_len (-x).toNat (by omega); simp; omega)
  generalize hd : Lib.decDigits (-x).toNat = d at hadd HE
  have HD := Lib.hid hd
  clear hd
  go_enter Tryz.func63, Tryz.ntmps63
  go_wp2_with fail
  refine (itoa_pos _ (-x) _ rfl hn0 hn1).mono ?_
  rw [HD.out]
  rintro e w2 ⟨rfl, hb2⟩
  go_wp2_with fail
  go_ret
  refine ⟨?_, hb2⟩
  rw [HE.out]
  rfl

end Go.Proofs.YtolkfgikomminaaGreatDoor

namespace Go.Proofs.YtolkfgikomminaaGreatDoor
open Go.RowKit

theorem TwoAt.start0 (w : World) (na : Bool) (da : List UInt8) (xa : Int) (nb : Bool) (db : List UInt8) (xb : Int) (t : TypeId) :
  TwoAt w na da xa nb db xb ((w.alloc (.cells #[.bool na, .string ⟨da.toArray⟩, .int .i64 xa] t)).alloc (.cells #[.bool nb, .string ⟨db.toArray⟩, .int .i64 xb] t)) := by
 refine ⟨⟨?_, ?_, ?_⟩, ⟨?_, ?_, ?_⟩, below_two0 _ _ _, by simp⟩ <;> simp

theorem TwoAt.drew {w : World} {na : Bool} {da : List UInt8} {xa : Int} {nb : Bool} {db : List UInt8} {xb : Int} {W : World} (h : TwoAt w na da xa nb db xb W) : TwoAt w na da xa nb db xb W.drew := h.keep (Below.refl _ W).drew

set_option maxHeartbeats 1000000 in
theorem less_same (ng : Bool) (da : List UInt8) (xa : Int) (db : List UInt8) (xb : Int) (w : World) (ha : Nm.Small ⟨ng, da, xa⟩) (hb : Nm.Small ⟨ng, db, xb⟩) :
  Calls Tryz.prog 62 #[.agg #[.bool ng, .string ⟨da.toArray⟩, .int .i64 xa], .agg #[.bool ng, .string ⟨db.toArray⟩, .int .i64 xb]] w fun e w' => e = .returned (.bool (Nm.less ⟨ng, da, xa⟩ ⟨ng, db, xb⟩)) ∧ Below w.heap.size w w' := by
 obtain ⟨ha1, ha2, ha3⟩ := ha
 obtain ⟨hb1, hb2, hb3⟩ := hb
 simp only at ha1 ha2 ha3 hb1 hb2 hb3
 generalize hlo : min xa xb = lo
 have hl1 : lo ≤ xa := by omega
 have hl2 : lo ≤ xb := by omega
 have hl3 : -1000 ≤ lo := by omega
 have hwa : IntKind.i64.wrap (xa - lo) = xa - lo := IntWalk.i64_in _ (by omega)
 have hwb : IntKind.i64.wrap (xb - lo) = xb - lo := IntWalk.i64_in _ (by omega)
 have haa := fun W => cat_mk W da (List.replicate (xa - lo).toNat 48) (by rw [List.length_replicate]; omega)
 have hab := fun W => cat_mk W db (List.replicate (xb - lo).toNat 48) (by rw [List.length_replicate]; omega)
 have hza : (List.replicate (xa - lo).toNat (48 : UInt8)).length ≤ 2000 := by rw [List.length_replicate]; omega
 have hzb : (List.replicate (xb - lo).toNat (48 : UInt8)).length ≤ 2000 := by rw [List.length_replicate]; omega
 generalize hqa : List.replicate (xa - lo).toNat (48 : UInt8) = qa at haa hza
 generalize hqb : List.replicate (xb - lo).toNat (48 : UInt8) = qb at hab hzb
 have HQA := Lib.hid hqa
 have HQB := Lib.hid hqb
 have HLO := Lib.hid hlo
 clear hqa hqb
 have ht := TwoAt.start w ng da xa ng db xb 27
 have HT2 := Lib.hid ht
 clear ht
 go_enter Tryz.func62, Tryz.ntmps62
 go_wp2_with fail
 go_region_held3 (fun w' => (w'.cell? ⟨w.heap.size, 0, none⟩ = some (.bool ng) ∧ w'.cell? ⟨w.heap.size, 1, none⟩ = some (.string ⟨da.toArray⟩) ∧ w'.cell? ⟨w.heap.size, 2, none⟩ = some (.int .i64 xa)) ∧ (w'.cell? ⟨w.heap.size + 1, 0, none⟩ = some (.bool ng) ∧ w'.cell? ⟨w.heap.size + 1, 1, none⟩ = some (.string ⟨db.toArray⟩) ∧ w'.cell? ⟨w.heap.size + 1, 2, none⟩ = some (.int .i64 xb)) ∧ Below w.heap.size w w' ∧ w.heap.size + 2 ≤ w'.heap.size)
  ((show TwoAt w ng da xa ng db xb _; with_reducible first | exact HT2.out | exact TwoAt.drew HT2.out))
  (first | (go_at_call 89; refine (zeros_any (xa - lo) _ (by omega) (by omega)).mono ?_; rw [HQA.out]; rintro e w' ⟨rfl, rfl⟩))
 go_wp2_with fail
 go_region_held3 (fun w' => (w'.cell? ⟨w.heap.size, 0, none⟩ = some (.bool ng) ∧ w'.cell? ⟨w.heap.size, 1, none⟩ = some (.string ⟨da.toArray⟩) ∧ w'.cell? ⟨w.heap.size, 2, none⟩ = some (.int .i64 xa)) ∧ (w'.cell? ⟨w.heap.size + 1, 0, none⟩ = some (.bool ng) ∧ w'.cell? ⟨w.heap.size + 1, 1, none⟩ = some (.string ⟨db.toArray⟩) ∧ w'.cell? ⟨w.heap.size + 1, 2, none⟩ = some (.int .i64 xb)) ∧ Below w.heap.size w w' ∧ w.heap.size + 2 ≤ w'.heap.size)
  ((show TwoAt w ng da xa ng db xb _; with_reducible first | exact HT2.out | exact TwoAt.drew HT2.out))
  (first | (go_at_call 89; refine (zeros_any (xb - lo) _ (by omega) (by omega)).mono ?_; rw [HQB.out]; rintro e w' ⟨rfl, rfl⟩))
 have HE := Lib.hid (show Nm.less ⟨ng, da, xa⟩ ⟨ng, db, xb⟩ = if ng then Nm.shorter (if db.isEmpty then [] else db ++ qb) (if da.isEmpty then [] else da ++ qa) else Nm.shorter (if da.isEmpty then [] else da ++ qa) (if db.isEmpty then [] else db ++ qb) by
  rw [← HQA.out, ← HQB.out, ← HLO.out]
  unfold Nm.less Nm.full
  rw [if_pos rfl])
 clear HT2 HQA HQB hlo
 rcases da with _ | ⟨ca, ra⟩ <;> rcases db with _ | ⟨cb, rb⟩ <;> cases ng
 case cons.cons.false =>
  by_cases hlen : ra.length + qa.length + 1 = rb.length + qb.length + 1
  ·have hbne : (((ra.length : Int) + qa.length + 1 : Int) != rb.length + qb.length + 1) = false := by simp; omega
   go_wp2_with fail
   go_ret
   refine ⟨?_, below_two2 _ _ _⟩
   rw [HE.out]
   simp [Nm.shorter, hlen]
  ·have hbne : (((ra.length : Int) + qa.length + 1 : Int) != rb.length + qb.length + 1) = true := by simp; omega
   go_wp2_with fail
   go_ret
   refine ⟨?_, below_two2 _ _ _⟩
   rw [HE.out]
   simp [Nm.shorter]
   rw [if_neg (by omega)]
   simp only [decide_eq_decide]
   omega
 case cons.cons.true =>
  by_cases hlen : rb.length + qb.length + 1 = ra.length + qa.length + 1
  ·have hbne : (((rb.length : Int) + qb.length + 1 : Int) != ra.length + qa.length + 1) = false := by simp; omega
   go_wp2_with fail
   go_ret
   refine ⟨?_, below_two2 _ _ _⟩
   rw [HE.out]
   simp [Nm.shorter, hlen]
  ·have hbne : (((rb.length : Int) + qb.length + 1 : Int) != ra.length + qa.length + 1) = true := by simp; omega
   go_wp2_with fail
   go_ret
   refine ⟨?_, below_two2 _ _ _⟩
   rw [HE.out]
   simp [Nm.shorter]
   rw [if_neg (by omega)]
   simp only [decide_eq_decide]
   omega
 all_goals
  go_wp2_with fail
  go_ret
  refine ⟨?_, below_two2 _ _ _⟩
  rw [HE.out]
  simp [Nm.shorter, Op.bytesLess]
  try omega

set_option maxHeartbeats 400000 in
theorem refLess_any (na : Bool) (da : List UInt8) (xa : Int) (nb : Bool) (db : List UInt8) (xb : Int) (w : World) (ha : Nm.Small ⟨na, da, xa⟩) (hb : Nm.Small ⟨nb, db, xb⟩) :
  Calls Tryz.prog 62 #[.agg #[.bool na, .string ⟨da.toArray⟩, .int .i64 xa], .agg #[.bool nb, .string ⟨db.toArray⟩, .int .i64 xb]] w fun e w' => e = .returned (.bool (Nm.less ⟨na, da, xa⟩ ⟨nb, db, xb⟩)) ∧ Below w.heap.size w w' := by
 by_cases h : na = nb
 ·subst h; exact less_same na da xa db xb w ha hb
 ·have HE := Lib.hid (show Nm.less ⟨na, da, xa⟩ ⟨nb, db, xb⟩ = na by unfold Nm.less; rw [if_neg h])
  rw [HE.out]
  cases na <;> cases nb
  ·exact absurd rfl h
  ·go_enter Tryz.func62, Tryz.ntmps62
   go_wp2_with fail
   go_ret
   exact ⟨rfl, below_two0 _ _ _⟩
  ·go_enter Tryz.func62, Tryz.ntmps62
   go_wp2_with fail
   go_ret
   exact ⟨rfl, below_two0 _ _ _⟩
  ·exact absurd rfl h

set_option maxHeartbeats 400000 in
theorem refCmp_any (na : Bool) (da : List UInt8) (xa : Int) (nb : Bool) (db : List UInt8) (xb : Int) (w : World) (ha : Nm.Small ⟨na, da, xa⟩) (hb : Nm.Small ⟨nb, db, xb⟩) :
  Calls Tryz.prog 29 #[.agg #[.bool na, .string ⟨da.toArray⟩, .int .i64 xa], .agg #[.bool nb, .string ⟨db.toArray⟩, .int .i64 xb]] w
   fun e w' => e = .returned (.int .i64 (Nm.refCmp ⟨na, da, xa⟩ ⟨nb, db, xb⟩)) ∧ Below w.heap.size w w' := by
 have HA := Lib.hid ha
 have HB := Lib.hid hb
 have HT := Lib.hid (TwoAt.start0 w na da xa nb db xb 27)
 clear ha hb
 go_enter Tryz.func29, Tryz.ntmps29
 go_wp2_with fail
 refine (refLess_any _ _ _ _ _ _ _ HA.out HB.out).mono ?_
 rintro e w2 ⟨rfl, hb2⟩
 obtain ⟨⟨a1, a2, a3⟩, ⟨b1, b2, b3⟩, hbl, hsz⟩ := TwoAt.keep HT.out hb2
 clear hb2
 generalize h1 : Nm.less ⟨na, da, xa⟩ ⟨nb, db, xb⟩ = l1
 have H1 := Lib.hid h1
 clear h1
 go_wp2_with fail
 refine (refLess_any _ _ _ _ _ _ _ HB.out HA.out).mono ?_
 rintro e w3 ⟨rfl, hb3⟩
 generalize h2 : Nm.less ⟨nb, db, xb⟩ ⟨na, da, xa⟩ = l2
 have H2 := Lib.hid h2
 clear h2
 cases l1
 ·cases l2
  all_goals
   go_wp2_with fail
   go_ret
   refine ⟨?_, hbl.trans (hb3.mono (by omega))⟩
   simp [Nm.refCmp, H1.out, H2.out]
 ·go_wp2_with fail
  go_ret
  refine ⟨?_, hbl.trans (hb3.mono (by omega))⟩
  simp [Nm.refCmp, H1.out]

end Go.Proofs.YtolkfgikomminaaGreatDoor

namespace Go.Proofs.YtolkfgikomminaaGreatDoor
open Go.RowKit

theorem byte_bne {c k : UInt8} (h : ¬ c = k) : ((c.toNat : Int) != (k.toNat : Int)) = true := by rw [bne, Nm.byte_ne h]; rfl

def mayB (n : Nat) (x : Int) : Bool := !(decide (60 < n) || decide (x < -1000) || decide (1000 < x))

set_option maxHeartbeats 1000000 in
theorem mayNum_any (neg : Bool) (ds : List UInt8) (x : Int) (w : World) (hne : ds ≠ []) (hd : ∀ c ∈ ds, Nm.dig c = true) (hh : ds.head? ≠ some 48) (hl : ds.getLast? ≠ some 48) (hlen : ds.length ≤ 1000000) :
  Calls Tryz.prog 73 #[.agg #[.bool neg, .string ⟨ds.toArray⟩, .int .i64 x]] w fun e w' => e = .returned (.bool (mayB ds.length x)) ∧ Below w.heap.size w w' := by
 have hrun := (Nm.pre_all ds [] hd (fun c h => by cases h)).1
 rw [List.append_nil] at hrun
 have HR := Lib.hid hrun
 have HD := Lib.hid hd
 have HH := Lib.hid hh
 have HL := Lib.hid hl
 clear hrun hd hh hl
 rcases ds with _ | ⟨c, r⟩
 ·exact absurd rfl hne
 ·clear hne
  have hc : ∀ W : World, Calls Tryz.prog 72 #[.string ⟨(c :: r).toArray⟩, .int .i64 0] W fun e w' => e = .returned (.int .i64 (r.length + 1)) ∧ w' = W := fun W => by
   refine (run_any ⟨(c :: r).toArray⟩ 0 W (by rw [Lib.size_mk]; omega) (by omega) (by omega)).mono ?_
   rintro e w' ⟨rfl, rfl⟩
   refine ⟨?_, rfl⟩
   rw [show (⟨(c :: r).toArray⟩ : ByteArray).data.toList.drop (0 : Int).toNat = c :: r from rfl, HR.out]
   simp
  have HCC := Lib.hid hc
  clear hc
  have hcv : (c :: r).getLast (by simp) ≠ 48 := fun e => HL.out (by rw [List.getLast?_eq_some_getLast (by simp), e])
  have hc48 : c ≠ 48 := fun e => HH.out (by rw [e]; rfl)
  have hix : ∀ h, (⟨(c :: r).toArray⟩ : ByteArray)[0]'h = c := fun _ => rfl
  have hixl : ∀ h, (⟨(c :: r).toArray⟩ : ByteArray)[r.length]'h = (c :: r).getLast (by simp) := fun h => by
   rw [List.getLast_eq_getElem]
   rfl
  have n1 : ((c.toNat : Int) != 48) = true := byte_bne (k := 48) hc48
  have n2 : (((c :: r).getLast (by simp)).toNat != (48 : Int)) = true := byte_bne (k := 48) hcv
  generalize (c :: r).getLast (by simp) = lc at hixl n2 hcv
  clear hcv hc48 HH HL HD
  by_cases h1 : 60 < r.length + 1
  ·have e1 : decide (60 < (r.length : Int) + 1) = true := by simp; omega
   have HB := Lib.hid (show mayB (r.length + 1) x = false by unfold mayB; simp; omega)
   go_enter Tryz.func73, Tryz.ntmps73
   go_wp2_with fail
   go_quiet ((go_at_call 72; exact Calls.quiet_of_same (HCC.out _)))
   go_wp2_with fail
   go_ret
   refine ⟨?_, below_drewN ((Below.refl _ _).alloc (Nat.le_refl _) _) _⟩
   rw [HB.out]
   rfl
  ·have e1 : decide (60 < (r.length : Int) + 1) = false := by simp; omega
   by_cases h2 : x < -1000
   ·have e2 : decide (x < -1000) = true := by simpa using h2
    have HB := Lib.hid (show mayB (r.length + 1) x = false by unfold mayB; simp; omega)
    go_enter Tryz.func73, Tryz.ntmps73
    go_wp2_with fail
    go_quiet ((go_at_call 72; exact Calls.quiet_of_same (HCC.out _)))
    go_wp2_with fail
    go_ret
    refine ⟨?_, below_drewN ((Below.refl _ _).alloc (Nat.le_refl _) _) _⟩
    rw [HB.out]
    rfl
   ·have e2 : decide (x < -1000) = false := by simpa using h2
    by_cases h3 : 1000 < x
    ·have e3 : decide (1000 < x) = true := by simpa using h3
     have HB := Lib.hid (show mayB (r.length + 1) x = false by unfold mayB; simp; omega)
     go_enter Tryz.func73, Tryz.ntmps73
     go_wp2_with fail
     go_quiet ((go_at_call 72; exact Calls.quiet_of_same (HCC.out _)))
     go_wp2_with fail
     go_ret
     refine ⟨?_, below_drewN ((Below.refl _ _).alloc (Nat.le_refl _) _) _⟩
     rw [HB.out]
     rfl
    ·have e3 : decide (1000 < x) = false := by simpa using h3
     have HB := Lib.hid (show mayB (r.length + 1) x = true by unfold mayB; simp; omega)
     go_enter Tryz.func73, Tryz.ntmps73
     go_wp2_with fail
     go_quiet ((go_at_call 72; exact Calls.quiet_of_same (HCC.out _)))
     go_wp2_with fail
     go_ret
     refine ⟨?_, below_drewN ((Below.refl _ _).alloc (Nat.le_refl _) _) _⟩
     rw [HB.out]
     rfl

end Go.Proofs.YtolkfgikomminaaGreatDoor

namespace Go.Proofs.YtolkfgikomminaaGreatDoor
open Go.RowKit

def From (s : ByteArray) (a : Int) (t : List UInt8) : Prop := 0 ≤ a ∧ a ≤ s.size ∧ s.data.toList.drop a.toNat = t

theorem From.some {s : ByteArray} {a : Int} {c : UInt8} {r : List UInt8} (h : From s a (c :: r)) : a < s.size ∧ (∀ h, s[a.toNat]'h = c) ∧ From s (a + 1) r := by
 obtain ⟨h0, h1, h2⟩ := h
 have hlt : a.toNat < s.data.toList.length := by
  rcases Nat.lt_or_ge a.toNat s.data.toList.length with h | h
  ·exact h
  ·rw [List.drop_eq_nil_of_le h] at h2; cases h2
 have he := List.drop_eq_getElem_cons hlt
 rw [h2] at he
 have hlt' : a.toNat < s.size := by rw [Lib.size_eq]; exact hlt
 refine ⟨by omega, fun h => ?_, by omega, by omega, ?_⟩
 ·exact (List.cons.inj he).1.symm
 ·rw [show (a + 1).toNat = a.toNat + 1 from by omega]; exact (List.cons.inj he).2.symm
theorem From.none {s : ByteArray} {a : Int} (h : From s a []) : ¬ a < s.size := by
 obtain ⟨h0, h1, h2⟩ := h
 have := congrArg List.length h2
 rw [List.length_drop, ← Lib.size_eq] at this
 simp at this
 omega
theorem From.more {s : ByteArray} {a : Int} {t : List UInt8} (h : From s a t) (n : Nat) (hn : n ≤ t.length) : From s (a + n) (t.drop n) := by
 obtain ⟨h0, h1, h2⟩ := h
 have := congrArg List.length h2
 rw [List.length_drop, ← Lib.size_eq] at this
 refine ⟨by omega, by omega, ?_⟩
 rw [show (a + n).toNat = a.toNat + n from by omega, ← List.drop_drop, h2]
theorem From.digits {s : ByteArray} {a : Int} {t : List UInt8} (h : From s a t) : From s (a + ((Nm.pre t).length : Nat)) (Nm.suf t) := by
 have := h.more (Nm.pre t).length (Nm.pre_len t)
 have e : t.drop (Nm.pre t).length = Nm.suf t := by
  have h2 := Nm.pre_suf t
  have h3 : (Nm.pre t ++ Nm.suf t).drop (Nm.pre t).length = Nm.suf t := List.drop_left
  rw [h2] at h3
  exact h3
 rw [e] at this
 exact this
theorem From.at_eq {s : ByteArray} {a : Int} {t : List UInt8} (h : From s a t) : a = (s.size : Int) - t.length := by
 obtain ⟨h0, h1, h2⟩ := h
 have := congrArg List.length h2
 rw [List.length_drop, ← Lib.size_eq] at this
 omega

theorem run_from {s : ByteArray} {a : Int} {t : List UInt8} (h : From s a t) (hs : s.size ≤ 4000000000000000000) (w : World) :
  Calls Tryz.prog 72 #[.string s, .int .i64 a] w fun e w' => e = .returned (.int .i64 (Nm.pre t).length) ∧ w = w' := by
 have := run_any s a w hs h.1 h.2.1
 rw [h.2.2] at this
 exact this

end Go.Proofs.YtolkfgikomminaaGreatDoor

namespace Go.Proofs.YtolkfgikomminaaGreatDoor
open Go.RowKit

def CutA (s : ByteArray) (t : List UInt8) (v : Value) : Prop := ∃ a1, v = .int .i64 a1 ∧ From s a1 t
def CutB (s : ByteArray) (a : Int) (t : List UInt8) (v : Value) : Prop := ∃ n : Int, v = .int .i64 n ∧ 0 ≤ n ∧ From s (a + n) t
def CutC (s : ByteArray) (t3 : List UInt8) (v : Value) : Prop := ∃ a5 t5, v = .int .i64 a5 ∧ From s a5 t5 ∧ Nm.endPoint t3 = Nm.endExp t5

def isE (t : List UInt8) : Bool := t.head? == some 101 || t.head? == some 69
def isSign (t : List UInt8) : Bool := t.head? == some 43 || t.head? == some 45

def Ends (s : ByteArray) (t0 : List UInt8) (w : World) (e : Ending) (w' : World) : Prop := e = .returned (.tuple #[.int .i64 (s.size - (Nm.endOf t0).1.length), .bool (Nm.endOf t0).2]) ∧ w = w'

theorem Ends.of {s : ByteArray} {t0 t : List UInt8} {a : Int} {b : Bool} (w : World) (F : From s a t) (h : Nm.endOf t0 = (t, b)) : Ends s t0 w (.returned (.tuple #[.int .i64 a, .bool b])) w := by
 unfold Ends
 rw [h, F.at_eq]
 exact ⟨rfl, rfl⟩

set_option linter.unusedSimpArgs false in
set_option maxRecDepth 20000 in
set_option maxHeartbeats 2000000 in
theorem end_any (s : ByteArray) (a : Int) (t0 : List UInt8) (w : World) (F0 : From s a t0) (hs : s.size ≤ 4000000000000000000) :
  Calls Tryz.prog 46 #[.string s, .int .i64 a] w (Ends s t0 w) := by
 have b0 := F0.1
 have b1 := F0.2.1
 go_enter Tryz.func46, Tryz.ntmps46
 go_upto_region 2 with (fail)
 go_cut [18] (fun v18 wx => v18 = .bool (t0.head? == some 45) ∧ w = wx)
 case first =>
  rcases t0 with _ | ⟨c, r⟩
  ·have hz := F0.none
   go_wp2_with fail
   go_meet
   exact ⟨rfl, rfl⟩
  ·obtain ⟨hlt, hix, -⟩ := F0.some
   by_cases hc : c = 45
   ·have hb : ((c.toNat : Int) == 45) = true := Nm.byte_eq hc
    have HC := Lib.hid hc
    clear hc
    go_wp2_with fail
    go_meet
    exact ⟨by simp [HC.out], rfl⟩
   ·have hb : ((c.toNat : Int) == 45) = false := Nm.byte_ne hc
    have HC := Lib.hid hc
    clear hc
    go_wp2_with fail
    go_meet
    exact ⟨by simp [HC.out], rfl⟩
 case rest =>
 obtain ⟨rfl, rfl⟩ := hcut
 go_upto_if 18 with (fail)
 go_cut [6] (fun v6 wx => CutA s (Lib.trimPrefix t0 [45]) v6 ∧ w = wx)
 case first =>
  by_cases h : t0.head? = some 45
  ·obtain ⟨r, rfl⟩ : ∃ r, t0 = 45 :: r := by
    cases t0 with
    | nil => cases h
    | cons d t => exact ⟨t, by rw [Option.some.inj h]⟩
   have F1 := F0.some.2.2
   rw [show ((45 :: r : List UInt8).head? == some 45) = true from rfl]
   go_wp2_with fail
   go_meet
   exact ⟨⟨_, rfl, by rw [(Nm.prefix_yes r).2]; exact F1⟩, rfl⟩
  ·rw [show (t0.head? == some 45) = false from by simpa using h]
   have HP := Lib.hid (Nm.prefix_no t0 (fun c hc e => h (by rw [hc, e]))).2
   clear h
   go_wp2_with fail
   go_meet
   exact ⟨⟨_, rfl, by rw [HP.out]; exact F0⟩, rfl⟩
 case rest =>
 obtain ⟨⟨a1, rfl, F1⟩, rfl⟩ := hcut
 have HE := Lib.hid (show Nm.endOf t0 = if (Nm.pre (Lib.trimPrefix t0 [45])).isEmpty then (Lib.trimPrefix t0 [45], false) else Nm.endPoint (if (Lib.trimPrefix t0 [45]).head? = some 48 then (Lib.trimPrefix t0 [45]).drop 1 else Nm.suf (Lib.trimPrefix t0 [45])) from rfl)
 generalize Lib.trimPrefix t0 [45] = t1 at F1 HE
 have c0 := F1.1
 have c1 := F1.2.1
 go_wp2_with fail
 refine (run_from F1 hs _).mono ?_
 rintro e w' ⟨rfl, rfl⟩
 have hps := Nm.pre_suf t1
 have F2 := F1.digits
 have HPS := Lib.hid hps
 clear hps
 rcases hp : Nm.pre t1 with _ | ⟨d, q⟩
 ·rw [hp] at HE
  clear F2 HPS hp
  go_wp2_with fail
  go_ret2
  exact Ends.of w F1 (by rw [HE.out]; rfl)
 rw [hp] at HE F2 HPS
 clear hp
 have ht1 : t1 = d :: (q ++ Nm.suf t1) := HPS.out.symm
 have hq0 : ((q.length : Int) + 1 == 0) = false := by rw [beq_eq_false_iff_ne]; omega
 have F1' : From s a1 (d :: (q ++ Nm.suf t1)) := ht1 ▸ F1
 have hh : t1.head? = some d := congrArg List.head? ht1
 have hdr : t1.drop 1 = q ++ Nm.suf t1 := congrArg (List.drop 1) ht1
 have HE2 := Lib.hid (show Nm.endOf t0 = Nm.endPoint (if d = 48 then q ++ Nm.suf t1 else Nm.suf t1) by
  rw [HE.out, hh, hdr]
  simp only [List.isEmpty_cons, Bool.false_eq_true, if_false, Option.some.injEq])
 clear HE HPS hh hdr F1
 generalize Nm.suf t1 = st at F2 F1' HE2
 clear ht1
 obtain ⟨hlt, hix, F3⟩ := F1'.some
 clear F1'
 go_upto_if 30 with (fail)
 go_cut [7] (fun v7 wx => CutB s a1 (if d = 48 then q ++ st else st) v7 ∧ w = wx)
 case first =>
  by_cases hc : d = 48
  ·have hb : ((d.toNat : Int) == 48) = true := Nm.byte_eq hc
   have HC := Lib.hid hc
   clear hc
   go_wp2_with fail
   go_meet
   exact ⟨⟨1, rfl, by omega, by rw [if_pos HC.out]; exact F3⟩, rfl⟩
  ·have hb : ((d.toNat : Int) == 48) = false := Nm.byte_ne hc
   have HC := Lib.hid hc
   clear hc
   go_wp2_with fail
   go_meet
   exact ⟨⟨(q.length : Int) + 1, rfl, by omega, by rw [if_neg HC.out]; simpa using F2⟩, rfl⟩
 case rest =>
 obtain ⟨⟨n, rfl, hn0, F4⟩, rfl⟩ := hcut
 generalize (if d = 48 then q ++ st else st) = t3 at F4 HE2
 clear F2 F3 hix hlt hq0
 have d0 := F4.1
 have d1 := F4.2.1
 go_upto_region 10 with (fail)
 go_cut [43] (fun v43 wx => v43 = .bool (t3.head? == some 46) ∧ w = wx)
 case first =>
  rcases t3 with _ | ⟨c, r⟩
  ·have hz := F4.none
   go_wp2_with fail
   go_meet
   exact ⟨rfl, rfl⟩
  ·obtain ⟨hlt, hix, -⟩ := F4.some
   by_cases hc : c = 46
   ·have hb : ((c.toNat : Int) == 46) = true := Nm.byte_eq hc
    have HC := Lib.hid hc
    clear hc
    go_wp2_with fail
    go_meet
    exact ⟨by simp [HC.out], rfl⟩
   ·have hb : ((c.toNat : Int) == 46) = false := Nm.byte_ne hc
    have HC := Lib.hid hc
    clear hc
    go_wp2_with fail
    go_meet
    exact ⟨by simp [HC.out], rfl⟩
 case rest =>
 obtain ⟨rfl, rfl⟩ := hcut
 go_upto_if 43 with (fail)
 go_cut [6] (fun v6 wx => CutC s t3 v6 ∧ w = wx)
 case first =>
  by_cases h : t3.head? = some 46
  ·obtain ⟨u, rfl⟩ : ∃ u, t3 = 46 :: u := by
    cases t3 with
    | nil => cases h
    | cons d t => exact ⟨t, by rw [Option.some.inj h]⟩
   rw [show ((46 :: u : List UInt8).head? == some 46) = true from rfl]
   have F5 := F4.some.2.2
   have e0 := F5.2.1
   have HP := Lib.hid (show Nm.endPoint (46 :: u) = if (Nm.pre u).isEmpty then (Nm.suf u, false) else Nm.endExp (Nm.suf u) from rfl)
   clear h
   go_wp2_with fail
   refine (run_from F5 hs _).mono ?_
   rintro e w' ⟨rfl, rfl⟩
   have F6 := F5.digits
   generalize Nm.suf u = su at F6 HP
   rcases hp : Nm.pre u with _ | ⟨x, y⟩
   ·rw [hp] at HP F6
    clear hp
    go_wp2_with fail
    go_ret2
    refine Ends.of w (t := su) ?_ (by rw [HE2.out, HP.out]; rfl)
    simpa using F6
   ·rw [hp] at HP F6
    clear hp
    have f0 := F6.2.1
    simp only [List.length_cons] at f0 F6
    have hy0 : ((y.length : Int) + 1 == 0) = false := by rw [beq_eq_false_iff_ne]; omega
    have f1 : a1 + n + 1 + ((y.length : Int) + 1) ≤ s.size := by omega
    go_wp2_with fail
    go_meet
    exact ⟨⟨_, su, rfl, by simpa using F6, by rw [HP.out]; rfl⟩, rfl⟩
  ·rw [show (t3.head? == some 46) = false from by simpa using h]
   have HP := Lib.hid (Nm.endPoint_none t3 h)
   clear h
   go_wp2_with fail
   go_meet
   exact ⟨⟨_, t3, rfl, F4, HP.out⟩, rfl⟩
 case rest =>
 obtain ⟨⟨a5, t5, rfl, F5, hE5⟩, rfl⟩ := hcut
 have HE3 := Lib.hid (HE2.out.trans hE5)
 clear HE2 hE5 F4 d0 d1 hn0
 have d0 := F5.1
 have d1 := F5.2.1
 go_upto_region 15 with (fail)
 go_cut [70] (fun v70 wx => v70 = .bool (isE t5) ∧ w = wx)
 case first =>
  rcases t5 with _ | ⟨c, r⟩
  ·have hz := F5.none
   go_wp2_with fail
   go_meet
   exact ⟨rfl, rfl⟩
  ·obtain ⟨hlt, hix, -⟩ := F5.some
   by_cases hc : c = 101
   ·have hb : ((c.toNat : Int) == 101) = true := Nm.byte_eq hc
    have HC := Lib.hid hc
    clear hc
    go_wp2_with fail
    go_meet
    exact ⟨by simp [isE, HC.out], rfl⟩
   ·have hb : ((c.toNat : Int) == 101) = false := Nm.byte_ne hc
    have HC := Lib.hid hc
    clear hc
    by_cases hd : c = 69
    ·have hb2 : ((c.toNat : Int) == 69) = true := Nm.byte_eq hd
     have HD := Lib.hid hd
     clear hd
     go_wp2_with fail
     go_meet
     exact ⟨by simp [isE, HD.out], rfl⟩
    ·have hb2 : ((c.toNat : Int) == 69) = false := Nm.byte_ne hd
     have HD := Lib.hid hd
     clear hd
     go_wp2_with fail
     go_meet
     exact ⟨by simp [isE, HC.out, HD.out], rfl⟩
 case rest =>
 obtain ⟨rfl, rfl⟩ := hcut
 by_cases h : isE t5 = true
 case neg =>
  have hf : isE t5 = false := by simpa using h
  rw [hf]
  have HX := Lib.hid (show Nm.endExp t5 = (t5, true) by
   cases t5 with
   | nil => rfl
   | cons c r => exact Nm.endExp_bad c r (fun e => h (by rcases e with rfl | rfl <;> rfl)))
  clear h hf
  go_wp2_with fail
  go_ret2
  exact Ends.of w F5 (by rw [HE3.out, HX.out])
 rw [h]
 obtain ⟨c, v, rfl, hc⟩ : ∃ c v, t5 = c :: v ∧ (c = 101 ∨ c = 69) := by
  cases t5 with
  | nil => cases h
  | cons c v => exact ⟨c, v, rfl, by simpa [isE] using h⟩
 have HX := Lib.hid (HE3.out.trans (Nm.endExp_exp c v hc))
 clear HE3 hc h
 have F6 := F5.some.2.2
 have g0 := F6.2.1
 clear F5
 go_upto_region 17 with (fail)
 go_cut [88] (fun v88 wx => v88 = .bool (isSign v) ∧ w = wx)
 case first =>
  rcases v with _ | ⟨c, r⟩
  ·have hz := F6.none
   go_wp2_with fail
   go_meet
   exact ⟨rfl, rfl⟩
  ·obtain ⟨hlt, hix, -⟩ := F6.some
   by_cases hc : c = 43
   ·have hb : ((c.toNat : Int) == 43) = true := Nm.byte_eq hc
    have HC := Lib.hid hc
    clear hc
    go_wp2_with fail
    go_meet
    exact ⟨by simp [isSign, HC.out], rfl⟩
   ·have hb : ((c.toNat : Int) == 43) = false := Nm.byte_ne hc
    have HC := Lib.hid hc
    clear hc
    by_cases hd : c = 45
    ·have hb2 : ((c.toNat : Int) == 45) = true := Nm.byte_eq hd
     have HD := Lib.hid hd
     clear hd
     go_wp2_with fail
     go_meet
     exact ⟨by simp [isSign, HD.out], rfl⟩
    ·have hb2 : ((c.toNat : Int) == 45) = false := Nm.byte_ne hd
     have HD := Lib.hid hd
     clear hd
     go_wp2_with fail
     go_meet
     exact ⟨by simp [isSign, HC.out, HD.out], rfl⟩
 case rest =>
 obtain ⟨rfl, rfl⟩ := hcut
 go_upto_if 88 with (fail)
 go_cut [6] (fun v6 wx => CutA s (Nm.unsgn v) v6 ∧ w = wx)
 case first =>
  by_cases h : isSign v = true
  ·rw [h]
   obtain ⟨k, z, rfl, hk⟩ : ∃ k z, v = k :: z ∧ (k = 45 ∨ k = 43) := by
    cases v with
    | nil => cases h
    | cons k z => exact ⟨k, z, rfl, by simp [isSign] at h; exact h.symm⟩
   have F7 := F6.some.2.2
   have i0 := F7.2.1
   have HU := Lib.hid (show Nm.unsgn (k :: z) = z by simp only [Nm.unsgn]; rw [if_pos hk])
   clear hk h
   go_wp2_with fail
   go_meet
   exact ⟨⟨_, rfl, by rw [HU.out]; exact F7⟩, rfl⟩
  ·have hf : isSign v = false := by simpa using h
   rw [hf]
   have HU := Lib.hid (show Nm.unsgn v = v by
    cases v with
    | nil => rfl
    | cons k z =>
     simp only [Nm.unsgn]
     rw [if_neg (fun e => h (by rcases e with rfl | rfl <;> rfl))])
   clear h hf
   go_wp2_with fail
   go_meet
   exact ⟨⟨_, rfl, by rw [HU.out]; exact F6⟩, rfl⟩
 case rest =>
 obtain ⟨⟨a7, rfl, F7⟩, rfl⟩ := hcut
 generalize Nm.unsgn v = u7 at F7 HX
 clear F6 g0
 have i0 := F7.1
 have i1 := F7.2.1
 go_wp2_with fail
 refine (run_from F7 hs _).mono ?_
 rintro e w' ⟨rfl, rfl⟩
 have F8 := F7.digits
 generalize Nm.suf u7 = su at F8 HX
 have j1 := F8.2.1
 rcases hp : Nm.pre u7 with _ | ⟨x, y⟩
 ·rw [hp] at HX F8
  clear hp j1
  go_wp2_with fail
  go_ret2
  refine Ends.of w (t := su) ?_ (by rw [HX.out]; rfl)
  simpa using F8
 ·rw [hp] at HX F8 j1
  clear hp
  have hy0 : ((y.length : Int) + 1 == 0) = false := by rw [beq_eq_false_iff_ne]; omega
  simp only [List.length_cons] at j1
  have j2 : a7 + ((y.length : Int) + 1) ≤ s.size := by omega
  go_wp2_with fail
  go_ret2
  refine Ends.of w (t := su) ?_ (by rw [HX.out]; rfl)
  simpa using F8

end Go.Proofs.YtolkfgikomminaaGreatDoor


