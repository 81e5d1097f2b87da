/- Wg: Wg Mj, in one text. -/
import Derived.Test.YtolkfgikomminaaGreatDoorMh
import Derived.Test.YtolkfgikomminaaGreatDoorMa
import Derived.Deep.DeepFit
import Derived.IntWalk
import Derived.Laws.Concat
import Derived.Lib.IfaceEq
namespace Go.Proofs.YtolkfgikomminaaGreatDoor
open Go.RowKit

def PartsAt (w1 : World) (a b : Bool) (p1 p2 p3 : List UInt8) (w' : World) : Prop :=
 (w'.cell? ⟨w1.heap.size, 0, none⟩ = some (.bool a) ∧ w'.cell? ⟨w1.heap.size, 1, none⟩ = some (.string ⟨p1.toArray⟩) ∧ w'.cell? ⟨w1.heap.size, 2, none⟩ = some (.string ⟨p2.toArray⟩) ∧ w'.cell? ⟨w1.heap.size, 3, none⟩ = some (.bool b) ∧ w'.cell? ⟨w1.heap.size, 4, none⟩ = some (.string ⟨p3.toArray⟩)) ∧ Below w1.heap.size w1 w' ∧ w1.heap.size + 1 ≤ w'.heap.size

theorem PartsAt.keep {w1 : World} {a b : Bool} {p1 p2 p3 : List UInt8} {W w2 : World} (h : PartsAt w1 a b p1 p2 p3 W) (hb : Below W.heap.size W w2) : PartsAt w1 a b p1 p2 p3 w2 := by
 obtain ⟨⟨h0, h1, h2, h3, h4⟩, h5, h6⟩ := h
 have hc := fun o => hb.cell (p := ⟨w1.heap.size, o, none⟩) (by simp; omega)
 exact ⟨⟨(hc 0).trans h0, (hc 1).trans h1, (hc 2).trans h2, (hc 3).trans h3, (hc 4).trans h4⟩, h5.trans (hb.mono (by omega)), by have := hb.size; omega⟩

theorem PartsAt.start (w1 : World) (a b : Bool) (p1 p2 p3 : List UInt8) (t : TypeId) : PartsAt w1 a b p1 p2 p3 (w1.alloc (.cells #[.bool a, .string ⟨p1.toArray⟩, .string ⟨p2.toArray⟩, .bool b, .string ⟨p3.toArray⟩] t)).drew := by
 refine ⟨⟨?_, ?_, ?_, ?_, ?_⟩, ((Below.refl _ _).alloc (Nat.le_refl _) _).drew, by simp⟩ <;> simp

theorem PartsAt.start2 (w1 : World) (a b : Bool) (p1 p2 p3 : List UInt8) (t : TypeId) (o : Obj) : PartsAt w1 a b p1 p2 p3 ((w1.alloc (.cells #[.bool a, .string ⟨p1.toArray⟩, .string ⟨p2.toArray⟩, .bool b, .string ⟨p3.toArray⟩] t)).alloc o).drew := by
 refine ⟨⟨?_, ?_, ?_, ?_, ?_⟩, (below_two0 w1 _ _).drew, by simp⟩ <;> simp

theorem PartsAt.alloc {w1 : World} {a b : Bool} {p1 p2 p3 : List UInt8} {W : World} (h : PartsAt w1 a b p1 p2 p3 W) (o : Obj) : PartsAt w1 a b p1 p2 p3 (W.alloc o) :=
 h.keep ((Below.refl _ _).alloc (Nat.le_refl _) _)

theorem PartsAt.set {w1 : World} {a b : Bool} {p1 p2 p3 : List UInt8} {W : World} (h : PartsAt w1 a b p1 p2 p3 W) {k : Nat} (hk : w1.heap.size + 1 ≤ k) (o : Nat) (v : Value) : PartsAt w1 a b p1 p2 p3 (W.setCell ⟨k, o, none⟩ v) := by
 obtain ⟨⟨h0, h1, h2, h3, h4⟩, h5, h6⟩ := h
 have hb : Below (w1.heap.size + 1) W (W.setCell ⟨k, o, none⟩ v) := (Below.refl _ _).setCell (p := ⟨k, o, none⟩) hk v
 have hc := fun o => hb.cell (p := ⟨w1.heap.size, o, none⟩) (Nat.lt_succ_self _)
 exact ⟨⟨(hc 0).trans h0, (hc 1).trans h1, (hc 2).trans h2, (hc 3).trans h3, (hc 4).trans h4⟩, h5.trans (hb.mono (Nat.le_succ _)), Nat.le_trans h6 hb.size⟩

def errV (k : Int) : Value := if k = 0 then .nilIface else .iface 119 (.int .i64 k)

theorem res_cells {w W : World} {t : TypeId} (h : Below (w.heap.size + 1) (w.alloc (.cells #[.bool false, .string ⟨#[]⟩, .int .i64 0] t)) W) :
  W.cell? ⟨w.heap.size, 0, none⟩ = some (.bool false) ∧ W.cell? ⟨w.heap.size, 1, none⟩ = some (.string ⟨#[]⟩) ∧ W.cell? ⟨w.heap.size, 2, none⟩ = some (.int .i64 0) ∧ ∀ o, W.frozen? ⟨w.heap.size, o, none⟩ = false := by
 have hc := fun o => h.cell (p := ⟨w.heap.size, o, none⟩) (Nat.lt_succ_self _)
 refine ⟨(hc 0).trans (by simp), (hc 1).trans (by simp), (hc 2).trans (by simp), fun o => (h.frozen (p := ⟨w.heap.size, o, none⟩) (Nat.lt_succ_self _)).trans (by simp)⟩

theorem second_cells {w1 w2 : World} {o1 : Obj} {t : TypeId} (h : Below ((w1.alloc o1).alloc (.cells #[.bool false, .string ⟨#[]⟩, .int .i64 0] t)).drew.heap.size ((w1.alloc o1).alloc (.cells #[.bool false, .string ⟨#[]⟩, .int .i64 0] t)).drew w2) :
  w2.cell? ⟨w1.heap.size + 1, 0, none⟩ = some (.bool false) ∧ w2.cell? ⟨w1.heap.size + 1, 1, none⟩ = some (.string ⟨#[]⟩) ∧ w2.cell? ⟨w1.heap.size + 1, 2, none⟩ = some (.int .i64 0) := by
 have hc := fun o => h.cell (p := ⟨w1.heap.size + 1, o, none⟩) (by simp)
 exact ⟨(hc 0).trans (by simp), (hc 1).trans (by simp), (hc 2).trans (by simp)⟩

theorem normal_at (neg : Bool) (d : List UInt8) (x : Int) {n : Nm.Num} {ok : Bool} (h : Nm.normal neg d x = (n, ok)) (w : World) (hd : d.length ≤ 1000000000000000) (hx1 : -4000000000000000 ≤ x) (hx2 : x ≤ 4000000000000000) :
  Calls Tryz.prog 78 #[.bool neg, .string ⟨d.toArray⟩, .int .i64 x] w
   fun e w' => e = .returned (.tuple #[numV n, .bool ok]) ∧ Below w.heap.size w w' := by
 have := normal_any neg d x w hd hx1 hx2
 rw [h] at this
 exact this

set_option linter.unusedSimpArgs false in
set_option maxHeartbeats 4000000 in
theorem parse_any (s : ByteArray) (w : World) (hs : s.size ≤ 140737488355328) :
  Calls Tryz.prog 56 #[.string s] w fun e w' => e = .returned (.tuple #[numV (Nm.parse s.data.toList).1, errV (Nm.parse s.data.toList).2]) ∧ Below w.heap.size w w' := by
 go_enter Tryz.func56, Tryz.ntmps56
 go_wp2_with fail
 refine (split_any _ _ (by unfold maxLen; omega)).mono ?_
 rintro e w1 ⟨rfl, hb1⟩
 obtain ⟨hc, hf⟩ := bcell hb1
 have hz : w.heap.size + 1 ≤ w1.heap.size := by have := hb1.size; simp at this; omega
 have hz' : w.heap.size < w1.heap.size := by omega
 have hsd := Nm.split_sound s.data.toList
 rw [← Lib.size_eq] at hsd
 have HE := Lib.hid (show Nm.parse s.data.toList = Nm.parseOf (Nm.split s.data.toList) from rfl)
 generalize Nm.split s.data.toList = sp at HE hsd ⊢
 obtain ⟨⟨pn, pw, pf, px, pe⟩, ok⟩ := sp
 obtain ⟨hs1, hs2, hs3⟩ := hsd
 simp only at hs2 hs3
 have HS1 := Lib.hid hs1
 clear hs1
 cases ok
 ·have HE' := Lib.hid (HE.out.trans (show Nm.parseOf (⟨pn, pw, pf, px, pe⟩, false) = (Nm.Num.zero, 1) from rfl))
  clear HE
  go_wp2
  refine bodyPost_ret (v := .tuple #[numV (Nm.parse s.data.toList).1, errV (Nm.parse s.data.toList).2]) ?_ rfl ⟨rfl, ?_⟩
  ·rw [HE'.out]
   simp [results, Tryz.results56, go_sem, hc, hz', errV, Nm.Num.zero]
  ·exact Below.alloc (below_set (below_set (below_set (((Below.refl _ _).alloc (Nat.le_refl _) _).trans (hb1.mono (by simp))) (Nat.le_refl _) _ _) (Nat.le_refl _) _ _) (Nat.le_refl _) _ _) (by simp; omega) _
 ·have hxb := Nm.expOf_bd pn pw pf px pe HS1.out
  have hwr : IntKind.i64.wrap (Nm.expOf ⟨pn, pw, pf, px, pe⟩ - pf.length) = Nm.expOf ⟨pn, pw, pf, px, pe⟩ - pf.length := IntWalk.i64_in _ (by omega)
  have hadd : ∀ W : World, (Op.stringOp .add ⟨pw.toArray⟩ ⟨pf.toArray⟩).run Tryz.prog W = .ok (.string ⟨(pw ++ pf).toArray⟩) W := fun W => by
   rw [run_string_add_sum W _ _ (by rw [Lib.size_mk, Lib.size_mk]; omega), ByteArray.mk_append_mk]
  have hcat : ¬ 9223372036854775807 < pw.length + pf.length := by omega
  have HE' := Lib.hid (HE.out.trans (Nm.parseOf_eq pn pw pf px pe))
  rcases hnn : Nm.normal pn (pw ++ pf) (Nm.expOf ⟨pn, pw, pf, px, pe⟩ - pf.length) with ⟨⟨nn, nd, nx⟩, nok⟩
  rw [hnn] at HE'
  have HNN := Lib.hid hnn
  clear hnn HE
  cases nok
  all_goals
   go_wp2_with fail
   go_region_held3 (fun w' => (w'.cell? ⟨w1.heap.size, 0, none⟩ = some (.bool pn) ∧ w'.cell? ⟨w1.heap.size, 1, none⟩ = some (.string ⟨pw.toArray⟩) ∧ w'.cell? ⟨w1.heap.size, 2, none⟩ = some (.string ⟨pf.toArray⟩) ∧ w'.cell? ⟨w1.heap.size, 3, none⟩ = some (.bool px) ∧ w'.cell? ⟨w1.heap.size, 4, none⟩ = some (.string ⟨pe.toArray⟩)) ∧ Below w1.heap.size w1 w' ∧ w1.heap.size + 1 ≤ w'.heap.size)
   ((show PartsAt w1 pn px pw pf pe _; first | (with_reducible exact ht) | (with_reducible exact PartsAt.alloc ht _) | (with_reducible exact PartsAt.start w1 pn px pw pf pe _) | (with_reducible exact PartsAt.start2 w1 pn px pw pf pe _ _) | (with_reducible refine PartsAt.set (PartsAt.set (PartsAt.set ht ?_ _ _) ?_ _ _) ?_ _ _) <;> omega))
   (first | (go_at_call 79; refine (exponent_any _ _ _ _ _ _ HS1.out (by unfold maxLen; omega)).mono ?_; rintro e w2 ⟨rfl, hb2⟩; have ht := PartsAt.keep (w1 := w1) (a := pn) (b := px) (p1 := pw) (p2 := pf) (p3 := pe) (by with_reducible first | exact PartsAt.start w1 pn px pw pf pe _ | exact PartsAt.start2 w1 pn px pw pf pe _ _) hb2; obtain ⟨hc2, hf2⟩ := bcell hb2; have hz2 := ht.2.2; have ht2 := ht.2.1; have hzs := hb2.size; simp at hzs; (try (have hzu : w1.heap.size + 1 < w2.heap.size := by omega))) | (go_at_call 78; refine (normal_at pn (pw ++ pf) (Nm.expOf ⟨pn, pw, pf, px, pe⟩ - pf.length) HNN.out _ (by rw [List.length_append]; omega) (by omega) (by omega)).mono ?_; rintro e w3 ⟨rfl, hb3⟩; have ht := PartsAt.keep (w1 := w1) (a := pn) (b := px) (p1 := pw) (p2 := pf) (p3 := pe) (by with_reducible first | exact ht | exact PartsAt.alloc ht _) hb3; obtain ⟨hc3, hf3⟩ := bcell hb3; have hz3 := ht.2.2))
   all_goals
   have h1 : Below (w.heap.size + 1) (w.alloc (.cells #[.bool false, .string ⟨#[]⟩, .int .i64 0] 27)) w1 := hb1.mono (by simp)
   have h2 := h1.trans (ht2.mono (by omega))
   have h3 := h1.trans (ht.2.1.mono (by omega))
   obtain ⟨q0, q1, q2, q3⟩ := res_cells h2
   obtain ⟨r0, r1, r2, r3⟩ := res_cells h3
   have k1 : w.heap.size < w2.heap.size := by omega
   have k2 : w.heap.size < w3.heap.size := by omega
   clear h1 h2 ht ht2 hc hf hc2 hf2
   (try (have hv : w2.cell? ⟨w1.heap.size + 1, 0, none⟩ = some (.bool false) ∧ w2.cell? ⟨w1.heap.size + 1, 1, none⟩ = some (.string ⟨#[]⟩) ∧ w2.cell? ⟨w1.heap.size + 1, 2, none⟩ = some (.int .i64 0) := by with_reducible exact second_cells hb2))
   have h4 : Below w.heap.size w w3 := ((Below.refl _ _).alloc (Nat.le_refl _) _).trans (h3.mono (Nat.le_succ _))
   clear h3
   go_wp2
   refine bodyPost_ret (v := .tuple #[numV (Nm.parse s.data.toList).1, errV (Nm.parse s.data.toList).2]) ?_ rfl ⟨rfl, ?_⟩
   ·rw [HE'.out]
    simp [results, Tryz.results56, go_sem, r0, r1, r2, k2, errV, Nm.Num.zero]
   ·with_reducible first | exact Below.alloc (below_set (below_set (below_set h4 (Nat.le_refl _) _ _) (Nat.le_refl _) _ _) (Nat.le_refl _) _ _) (by simp; omega) _ | (refine below_set (below_set (below_set (below_set (below_set (below_set h4 ?_ _ _) ?_ _ _) ?_ _ _) ?_ _ _) ?_ _ _) ?_ _ _ <;> omega)

end Go.Proofs.YtolkfgikomminaaGreatDoor

namespace Go.Proofs.YtolkfgikomminaaGreatDoor
open Go.RowKit
set_option maxHeartbeats 400000 in
theorem of_any (k : Int) (w : World) (h0 : -9223372036854775808 ≤ k) (h1 : k ≤ 9223372036854775807) (htab : Tab w) :
  Calls Tryz.prog 26 #[.int .i64 k] w fun e w' => e = .returned (numV (Nm.parse (Lib.itoa k)).1) ∧ Below w.heap.size w w' := by
 have HT := Lib.hid htab
 clear htab
 go_enter Tryz.func26, Tryz.ntmps26
 go_wp2_with fail
 refine (Tryz.strconv_Itoa _ h0 h1 _ (HT.out.keep ((Below.refl _ _).alloc (Nat.le_refl _) _))).mono ?_
 rintro e w1 ⟨rfl, k4, os4, rfl⟩
 have hb1 := below_grow (w.alloc (.cells #[.bool false, .string ⟨#[]⟩, .int .i64 0] 27)) k4 os4
 generalize Sort.grow _ os4 = w1 at hb1 ⊢
 have hz1 := hb1.size
 simp at hz1
 go_wp2_with fail
 refine (parse_any _ _ (by rw [Lib.size_mk]; have := Lib.itoa_length_le k h0 h1; omega)).mono ?_
 rw [show (⟨(Lib.itoa k).toArray⟩ : ByteArray).data.toList = Lib.itoa k from rfl]
 rintro e w2 ⟨rfl, hb2⟩
 have hz2 := hb2.size
 generalize hp : Nm.parse (Lib.itoa k) = r
 have HP := Lib.hid hp
 clear hp
 obtain ⟨⟨nn, nd, nx⟩, nc⟩ := r
 have h3 : Below (w.heap.size + 1) (w.alloc (.cells #[.bool false, .string ⟨#[]⟩, .int .i64 0] 27)) w2 := (hb1.mono (by simp)).trans (hb2.mono (by omega))
 obtain ⟨r0, r1, r2, r3⟩ := res_cells h3
 have k2 : w.heap.size < w2.heap.size := by omega
 have h4 : Below w.heap.size w w2 := ((Below.refl _ _).alloc (Nat.le_refl _) _).trans (h3.mono (Nat.le_succ _))
 clear h3 hb1 hb2
 go_wp2
 refine bodyPost_ret (v := numV (Nm.parse (Lib.itoa k)).1) ?_ rfl ⟨rfl, ?_⟩
 ·rw [HP.out]
  simp [results, Tryz.results26, go_sem, r0, r1, r2, k2]
 ·exact Below.alloc (below_set (below_set (below_set h4 (Nat.le_refl _) _ _) (Nat.le_refl _) _ _) (Nat.le_refl _) _ _) (by simp; omega) _

end Go.Proofs.YtolkfgikomminaaGreatDoor

namespace Go.Proofs.YtolkfgikomminaaGreatDoor
open Go.RowKit
end Go.Proofs.YtolkfgikomminaaGreatDoor


