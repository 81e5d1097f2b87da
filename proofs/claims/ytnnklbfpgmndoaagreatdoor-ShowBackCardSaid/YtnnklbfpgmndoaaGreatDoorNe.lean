/- Ne: Yh Yi, in one text. -/
import Derived.Test.YtnnklbfpgmndoaaGreatDoorYd
import Derived.Test.YtnnklbfpgmndoaaGreatDoorNd
/- The program's parse: member, and the closure that calls it. (By gen_member.py.) -/
namespace Go.Proofs.YtnnklbfpgmndoaaGreatDoor
open Go.RowKit Js

theorem TabsR.sole2 {rb mb : Nat} {w w' : World} (h : TabsR rb w) (hS : Sole2 rb mb w w') (hm : rb < mb) : TabsR rb w' := by
  obtain ⟨hT, h1, h2⟩ := h
  have hl := hT.lt
  refine ⟨?_, h1, h2⟩
  exact hT.keep (B := max 2 3 + 1) ⟨hS.os, hS.tape, hS.output, hS.size, fun k hk => hS.block k (by omega) (by omega) (by omega)⟩ (by omega) (by omega)

theorem pass_len {c : UInt8} {t : List UInt8} {y : Unit} {u : List UInt8} (h : passR c t = .ok y u) : u.length < t.length := by
  unfold passR at h
  have := Ps.skip_len t
  cases hq : Ps.skip t with
  | nil => rw [hq] at h; cases h
  | cons b r =>
    rw [hq] at h this
    simp only at h
    split at h
    · injection h with h1 h2
      subst h2
      simp only [List.length_cons] at this
      omega
    · cases h

/-- It hands a member back, its value in memory of its own, and its key is seen. -/
def MWent (rb mb : Nat) (s : ByteArray) (d : Nat) (w : World) (acc : List Js.Mem) (r : Ps.R Js.Mem) (e : Ending) (w' : World) : Prop :=
  Sole2 rb mb w w' ∧ (match r with
    | .ok p u => (∃ v0 v1 v2 v3 v4 v5 v6 v7, e = .returned (.agg #[.string ⟨p.1.toArray⟩, v0, v1, v2, v3, v4, v5, v6, v7]) ∧ p.2.In (w'.on (w.heap.size ≤ ·)) (.agg #[v0, v1, v2, v3, v4, v5, v6, v7])) ∧ (∃ a, Pr w' rb s a u d) ∧ SeenAt w' mb (acc.length + 1) (Ps.has (acc ++ [p]))
    | .bad c l => Ami s c l e w')

theorem has_snoc (acc : List Js.Mem) (p : Js.Mem) (k : List UInt8) : (decide (p.1 = k) || Ps.has acc k) = Ps.has (acc ++ [p]) k := by
  unfold Ps.has
  rw [List.any_append, Bool.or_comm]
  simp

set_option linter.unusedSimpArgs false in
set_option linter.unusedVariables false in
set_option maxRecDepth 100000 in
set_option maxHeartbeats 8000000 in
theorem member_any (f : Nat) (HV : VCz f) {rb mb : Nat} {s : ByteArray} {a : Nat} {t : List UInt8} {d : Nat} {w : World} {acc : List Js.Mem} (h : Pr w rb s a t d) (hs : s.size ≤ 100000) (hT : TabsR rb w) (hd : d ≤ 32) (hfu : 3 * t.length ≤ f) (hM : SeenAt w mb acc.length (Ps.has acc)) (hrm : rb < mb) (hacc : acc.length ≤ 1000000) :
    Calls Tryz.prog 67 #[.pointer (some ⟨rb, 0, none⟩), .map (some mb)] w (MWent rb mb s d w acc (Ps.oneM (f + 1) d t acc)) := by
  have HS0 := Lib.hid ((Sole.refl rb w).alloc (.cells zero9 41))
  have HZ := Lib.hid (Blk.new w 41 zero9)
  have hmb := hM.lt
  have HN := Lib.hid (next_any (h.on ((Below.refl _ _).alloc (Nat.le_refl _) (.cells zero9 41))) (by omega))
  have hrb := h.lt
  have htl : t.length ≤ s.size := by have := h.2.1; omega
  have hsk := Ps.skip_len t
  have HM := Lib.hid hM
  have HT := Lib.hid hT
  clear h hT hM
  go_enter Tryz.func67, Tryz.ntmps67
  go_wp2_with fail
  refine HN.out.mono ?_
  rintro e w1 ⟨rfl, ⟨a1, hR⟩, hS1⟩
  have HS1 := Lib.hid (HS0.out.trans hS1)
  have HQ := Lib.hid (runquote_any hR (by omega) (HT.out.sole HS1.out))
  have HF := Lib.hid (pfail_any s a1 4 (Ps.skip t).length (a1 : Int) 4 rfl rfl hR.2.1)
  obtain ⟨c0, c1, c2⟩ := hR.1.three
  have HZ1 := Lib.hid (hS1.blk HZ.out (by omega))
  clear hR hS1
  generalize hb (Ps.skip t) = q0
  go_wp2_with fail
  refine HQ.out.mono ?_
  cases hq : Ps.qtext (Ps.skip t) with
  | bad c l =>
    rintro e w9 ⟨hS9, g9, p9, h1, rfl, h2⟩
    have HFI := Lib.hid (show MWent rb mb s d w acc (Ps.oneM (f + 1) d t acc) (.panicked [{ v := .iface 52 (.agg #[.iface 47 (.pointer (some ⟨g9, 0, none⟩))]), recovered := false }]) w9 by unfold MWent; rw [Ps.oneM, hq]; exact ⟨(HS1.out.trans hS9).two, g9, p9, h1, rfl, h2⟩)
    clear h1 h2 hS9 hq
    go_wp2_with fail
    exact ⟨rfl, HFI.out⟩
  | ok key t2 =>
    rintro e w3 ⟨hS3, ⟨x, rfl, hx⟩, a3, hP3⟩
    obtain rfl : x = .string ⟨key.toArray⟩ := hx
    have hkl := Ps.qtext_slim hq
    have hql := (Ps.qtext_ok hq).1
    have HS3 := Lib.hid (HS1.out.trans hS3)
    have hM3 := HM.out.far (HS3.out.block mb hmb (by omega))
    have HM3 := Lib.hid hM3
    have HP3 := Lib.hid hP3
    have HZ3 := Lib.hid (hS3.blk HZ1.out (by omega))
    have hlk := hM3.look key (by omega)
    have HQ3 := Lib.hid hq
    clear hM3 hP3 hS3 hq c0 c1 c2
    cases hh : Ps.has acc key with
    | true =>
      rw [hh] at hlk
      have HRB := Lib.hid (show Ps.oneM (f + 1) d t acc = .bad 4 (Ps.skip t).length by rw [Ps.oneM, HQ3.out]; simp only; rw [if_pos hh])
      clear hh
      go_wp2_with fail
      refine (HF.out _).mono ?_
      rintro e w9 ⟨⟨g9, p9, h1, rfl, h2⟩, hb9⟩
      have HFI := Lib.hid (show MWent rb mb s d w acc (Ps.oneM (f + 1) d t acc) (.panicked [{ v := .iface 52 (.agg #[.iface 47 (.pointer (some ⟨g9, 0, none⟩))]), recovered := false }]) w9 by unfold MWent; rw [HRB.out]; exact ⟨(HS3.out.trans (.of_below hb9)).two, g9, p9, h1, rfl, h2⟩)
      clear h1 h2 hb9 hlk
      go_wp2_with fail
      exact ⟨rfl, HFI.out⟩
    | false =>
      rw [hh] at hlk
      obtain ⟨w4, hput, hM4, hg4⟩ := HM3.out.put key (by omega) (by omega)
      have hS4 : Sole2 rb mb w3 w4 := Sole2.grow hg4
      have HS4 := Lib.hid (HS3.out.two.trans hS4)
      have HM4 := Lib.hid hM4
      have HP4 := Lib.hid (HP3.out.far (hg4.block rb HP3.out.lt (by simp; omega)))
      have HZ4 := Lib.hid (hS4.blk HZ3.out (by omega) (by omega))
      have HPS := Lib.hid (pass_any HP4.out (by omega) 58 58 rfl (by decide))
      have HH := Lib.hid hh
      have hsz4 : w.heap.size + 1 ≤ w4.heap.size := by have := HZ4.out.lt; omega
      clear hM4 hg4 hS4 hh
      go_wp2_with fail
      refine HPS.out.mono ?_
      have HRQ := Lib.hid (show Ps.oneM (f + 1) d t acc = match passR 58 t2 with
          | .bad c l => .bad c l
          | .ok _ t4 => (Ps.core f d t4).map (fun x => (key, x)) by
        rw [Ps.oneM, HQ3.out]
        simp only
        rw [if_neg (by rw [HH.out]; decide)]
        unfold passR
        cases Ps.skip t2 with
        | nil => rfl
        | cons c r =>
          simp only
          by_cases hc : c = 58
          · rw [if_pos hc, if_pos hc]; rfl
          · rw [if_neg hc, if_neg hc])
      clear hlk hput
      cases hq5 : passR 58 t2 with
      | bad c l =>
        rintro e w9 ⟨hS9, g9, p9, h1, rfl, h2⟩
        have HFI := Lib.hid (show MWent rb mb s d w acc (Ps.oneM (f + 1) d t acc) (.panicked [{ v := .iface 52 (.agg #[.iface 47 (.pointer (some ⟨g9, 0, none⟩))]), recovered := false }]) w9 by unfold MWent; rw [HRQ.out, hq5]; exact ⟨HS4.out.trans hS9.two, g9, p9, h1, rfl, h2⟩)
        clear h1 h2 hS9 hq5
        go_wp2_with fail
        exact ⟨rfl, HFI.out⟩
      | ok y t4 =>
        rintro e w5 ⟨hS5, ⟨x, rfl, hx⟩, a5, hP5⟩
        obtain rfl : x = .tuple #[] := hx
        have hl4 := pass_len hq5
        have HS5 := Lib.hid (HS4.out.trans hS5.two)
        have HM5 := Lib.hid (HM4.out.far (hS5.block mb HM4.out.lt (by omega)))
        have HP5 := Lib.hid hP5
        have HZ5 := Lib.hid (hS5.blk HZ4.out (by omega))
        have hsz5 : w4.heap.size ≤ w5.heap.size := hS5.size
        have HCV := Lib.hid (HV rb s a5 t4 d w5 hP5 hs (HT.out.sole2 HS5.out hrm) hd (by omega))
        clear hS5 hP5
        go_wp2_with fail
        refine HCV.out.mono ?_
        cases hq6 : Ps.core f d t4 with
        | bad c l =>
          rintro e w9 ⟨hS9, g9, p9, h1, rfl, h2⟩
          have HFI := Lib.hid (show MWent rb mb s d w acc (Ps.oneM (f + 1) d t acc) (.panicked [{ v := .iface 52 (.agg #[.iface 47 (.pointer (some ⟨g9, 0, none⟩))]), recovered := false }]) w9 by unfold MWent; rw [HRQ.out, hq5]; simp only; rw [hq6]; exact ⟨HS5.out.trans hS9.two, g9, p9, h1, rfl, h2⟩)
          clear h1 h2 hS9 hq6 hq5
          go_wp2_with fail
          exact ⟨rfl, HFI.out⟩
        | ok v u6 =>
          rintro e w6 ⟨hS6, ⟨x, rfl, hx⟩, a6, hP6⟩
          obtain ⟨k1, b1, n1, g1, x1, s1, A1, l1, p1, B1, m1, z1, rfl⟩ := In.cells hx
          have HR := Lib.hid (show Ps.oneM (f + 1) d t acc = .ok (key, v) u6 by rw [HRQ.out, hq5]; simp only; rw [hq6]; rfl)
          have HS6 := Lib.hid (HS5.out.trans hS6.two)
          have HM6 := Lib.hid (HM5.out.far (hS6.block mb HM5.out.lt (by omega)))
          have HP6 := Lib.hid hP6
          have HX := Lib.hid hx
          have HZ6 := Lib.hid (hS6.blk HZ5.out (by omega))
          obtain ⟨z0, z1', z2, z3, z4, z5, z6, z7, z8⟩ := HZ6.out.nine
          have zf := HZ6.out.frozen
          clear hS6 hP6 hx hq6 hq5
          go_wp2_with fail
          have hfin := HZ6.out.set9 (.string ⟨key.toArray⟩) (.int .i64 k1) (.bool b1) (.bool n1) (.string ⟨g1.toArray⟩) (.int .i64 x1) (.string ⟨s1.toArray⟩) (.slice A1 l1 p1) (.slice B1 m1 z1)
          refine bodyPost_ret (results_row1 (l := [_, _, _, _, _, _, _, _, _]) rfl _ _ _ rfl hfin Tryz.underlying41 rfl (by kernel_rfl)) rfl ?_
          unfold MWent
          rw [HR.out]
          exact ⟨HS6.out.set9 (Nat.le_refl _) _ _ _ _ _ _ _ _ _, ⟨_, _, _, _, _, _, _, _, rfl, in_set9 HX.out (by omega) (by omega) _ _ _ _ _ _ _ _ _⟩, ⟨a6, HP6.out.far (heap_set9 _ _ _ (by omega) _ _ _ _ _ _ _ _ _)⟩, (HM6.out.far (heap_set9 _ _ _ (by omega) _ _ _ _ _ _ _ _ _)).congr (has_snoc acc (key, v))⟩

end Go.Proofs.YtnnklbfpgmndoaaGreatDoor

/- The program's parse: the closure that reads a member. (By gen_member.py.) -/
namespace Go.Proofs.YtnnklbfpgmndoaaGreatDoor
open Go.RowKit Js

theorem agg8 {v0 v1 v2 v3 v4 v5 v6 v7 : Value} {c : Cl} {v : Vl} (h : v.In c (.agg #[v0, v1, v2, v3, v4, v5, v6, v7])) : ∃ (k : Int) (b neg : Bool) (dg : List UInt8) (ex : Int) (s : List UInt8) (A : Option Addr) (n e : Nat) (B : Option Addr) (m d : Nat),
    v0 = .int .i64 k ∧ v1 = .bool b ∧ v2 = .bool neg ∧ v3 = .string ⟨dg.toArray⟩ ∧ v4 = .int .i64 ex ∧ v5 = .string ⟨s.toArray⟩ ∧ v6 = .slice A n e ∧ v7 = .slice B m d := by
  obtain ⟨k, b, neg, dg, ex, s, A, n, e, B, m, d, h⟩ := In.cells h
  injection h with h
  injection h with h
  injection h with e0 h
  injection h with e1 h
  injection h with e2 h
  injection h with e3 h
  injection h with e4 h
  injection h with e5 h
  injection h with e6 h
  injection h with e7 h
  exact ⟨k, b, neg, dg, ex, s, A, n, e, B, m, d, e0, e1, e2, e3, e4, e5, e6, e7⟩

set_option linter.unusedSimpArgs false in
set_option linter.unusedVariables false in
set_option maxRecDepth 100000 in
set_option maxHeartbeats 8000000 in
theorem memclo_any (f : Nat) (HV : VCz f) {rb mb b1 b3 : Nat} {s : ByteArray} {a : Nat} {t : List UInt8} {d : Nat} {w : World} {acc : List Js.Mem} (h : Pr w rb s a t d) (hs : s.size ≤ 100000) (hT : TabsR rb w) (hd : d ≤ 32) (hfu : 3 * t.length ≤ f) (hM : SeenAt w mb acc.length (Ps.has acc)) (hrm : rb < mb) (hacc : acc.length ≤ 1000000)
    (hB1 : Blk w b1 68 #[.pointer (some ⟨rb, 0, none⟩)]) (hB3 : Blk w b3 101 #[.map (some mb)]) :
    Calls Tryz.prog 66 #[.pointer (some ⟨b1, 0, none⟩), .pointer (some ⟨b3, 0, none⟩)] w (MWent rb mb s d w acc (Ps.oneM (f + 1) d t acc)) := by
  have hrb := h.lt
  have hmb := hM.lt
  have HS0 := Lib.hid ((Sole.refl rb w).alloc (.cells zero9 41))
  have HZ := Lib.hid (Blk.new w 41 zero9)
  have HCM := Lib.hid (member_any f HV (h.on ((Below.refl _ _).alloc (Nat.le_refl _) (.cells zero9 41))) hs (hT.sole HS0.out) hd hfu (hM.far (Below.heap_alloc _ _ _ hmb)) hrm hacc)
  have p1 := (hB1.alloc (.cells zero9 41)).cell 0
  have p3 := (hB3.alloc (.cells zero9 41)).cell 0
  simp only [List.getElem?_toArray, List.getElem?_cons_zero] at p1 p3
  clear h hT hM hB1 hB3
  go_enter Tryz.func66, Tryz.ntmps66
  go_wp2_with fail
  refine HCM.out.mono ?_
  cases hq : Ps.oneM (f + 1) d t acc with
  | bad c l =>
    rintro e w9 ⟨hS9, g9, p9, h1, rfl, h2⟩
    have HFI := Lib.hid (show MWent rb mb s d w acc (Ps.R.bad c l) (.panicked [{ v := .iface 52 (.agg #[.iface 47 (.pointer (some ⟨g9, 0, none⟩))]), recovered := false }]) w9 by unfold MWent; exact ⟨HS0.out.two.trans hS9, g9, p9, h1, rfl, h2⟩)
    clear h1 h2 hS9 hq p1 p3
    go_wp2_with fail
    exact ⟨rfl, HFI.out⟩
  | ok p u6 =>
    rintro e w6 ⟨hS6, ⟨v0, v1, v2, v3, v4, v5, v6, v7, rfl, hx⟩, ⟨a6, hP6⟩, hM6⟩
    obtain ⟨k1, q1, n1, g1, x1, s1, A1, l1, c1, B1, m1, z1, rfl, rfl, rfl, rfl, rfl, rfl, rfl, rfl⟩ := agg8 hx
    have HS6 := Lib.hid (HS0.out.two.trans hS6)
    have HM6 := Lib.hid hM6
    have HP6 := Lib.hid hP6
    have HX := Lib.hid hx
    have HZ6 := Lib.hid (hS6.blk HZ.out (by omega) (by omega))
    have hsz : (w.alloc (.cells zero9 41)).heap.size = w.heap.size + 1 := by simp
    obtain ⟨z0, z1', z2, z3, z4, z5, z6, z7, z8⟩ := HZ6.out.nine
    have zf := HZ6.out.frozen
    have HR := Lib.hid hq
    clear hS6 hP6 hx hM6 hq p1 p3
    obtain ⟨key, v⟩ := p
    go_wp2_with fail
    have hfin := HZ6.out.set9 (.string ⟨key.toArray⟩) (.int .i64 k1) (.bool q1) (.bool n1) (.string ⟨g1.toArray⟩) (.int .i64 x1) (.string ⟨s1.toArray⟩) (.slice A1 l1 c1) (.slice B1 m1 z1)
    refine bodyPost_ret (results_row1 (l := [_, _, _, _, _, _, _, _, _]) rfl _ _ _ rfl hfin Tryz.underlying41 rfl (by kernel_rfl)) rfl ?_
    unfold MWent
    rw [HR.out]
    exact ⟨HS6.out.set9 (Nat.le_refl _) _ _ _ _ _ _ _ _ _, ⟨_, _, _, _, _, _, _, _, rfl, in_set9 HX.out (by omega) (by omega) _ _ _ _ _ _ _ _ _⟩, ⟨a6, HP6.out.far (heap_set9 _ _ _ (by omega) _ _ _ _ _ _ _ _ _)⟩, HM6.out.far (heap_set9 _ _ _ (by omega) _ _ _ _ _ _ _ _ _)⟩

end Go.Proofs.YtnnklbfpgmndoaaGreatDoor


