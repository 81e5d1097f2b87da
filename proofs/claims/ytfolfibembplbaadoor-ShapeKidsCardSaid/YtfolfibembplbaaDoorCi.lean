/- The walks of layer 10 (shape): the program's isCount. (By gen_ch.py.) -/
import Derived.Test.YtfolfibembplbaaDoorCh
namespace Go.Proofs.YtfolfibembplbaaDoor
open Go.RowKit Js

theorem Part10.drew {gV : Nat} {V : Array Value} {wr W : World} (h : Part10 gV V wr W) : Part10 gV V wr W.drew := ⟨h.v, h.since.drew⟩
theorem Sh.may_num {k : Int} {b : Bool} {n : Nm.Num} {s : List UInt8} {l : List Vl} {m : List Js.Mem} (h : (Vl.mk k b n s l m).may = true) : mayNum n = true := by
  simp only [Vl.may, Bool.and_eq_true] at h
  exact h.1.1.1.2
theorem Sh.may_fair {n : Nm.Num} (h : mayNum n = true) : Nm.Fair n := by
  unfold mayNum at h
  split at h
  · rename_i h0
    simp only [Bool.and_eq_true, decide_eq_true_eq] at h
    exact ⟨by rw [h0]; simp, by omega, by omega⟩
  · simp only [Bool.and_eq_true, decide_eq_true_eq] at h
    exact ⟨by omega, by omega, by omega⟩
theorem Sh.ofZero : (Nm.parse (Lib.itoa 0)).1 = Nm.Num.zero := by kernel_rfl
/-- A count, as the program asks for it. -/
theorem Sh.count_eq {b : Bool} {n : Nm.Num} {s : List UInt8} {l : List Vl} {m : List Js.Mem} (h : mayNum n = true) : Sh.okOf 5 (.mk 2 b n s l m) = (decide (0 ≤ n.exp) && decide (0 ≤ Nm.cmp n Nm.Num.zero)) := by
  obtain ⟨neg, dg, ex⟩ := n
  unfold mayNum at h
  cases dg with
  | nil =>
    simp only [if_true, Bool.and_eq_true, Bool.not_eq_true', decide_eq_true_eq] at h
    obtain ⟨rfl, rfl⟩ := h
    rw [show Nm.cmp ⟨false, [], 0⟩ Nm.Num.zero = 0 by kernel_rfl]
    simp [Sh.okOf]
  | cons c r =>
    clear h
    have e1 : Sh.okOf 5 (.mk 2 b ⟨neg, c :: r, ex⟩ s l m) = (decide (0 ≤ ex) && !neg) := by simp [Sh.okOf]
    rw [e1]
    congr 1
    cases neg with
    | true => simp [Nm.cmp, Nm.sign, Nm.Num.zero, Lib.compareInt]
    | false => simp [Nm.cmp, Nm.sign, Nm.Num.zero, Lib.compareInt]
theorem Sh.count_no {k : Int} {b : Bool} {n : Nm.Num} {s : List UInt8} {l : List Vl} {m : List Js.Mem} (h : ¬ k = 2) : Sh.okOf 5 (.mk k b n s l m) = false := by simp [Sh.okOf, h]

set_option linter.unusedVariables false in
set_option linter.unusedSimpArgs false in
set_option maxRecDepth 100000 in
set_option maxHeartbeats 2000000 in
theorem isCount_any (v : Vl) (x : Value) (w : World) (hT : Tab w) (hm : v.may = true) (hx : v.In w.cell? x) : Calls Tryd.prog 12 #[x] w fun e w' => e = .returned (.bool (Sh.okOf 5 v)) ∧ Below w.heap.size w w' := by
  obtain ⟨k, b, n, s, l, m⟩ := v
  obtain ⟨A, e, B, d, rfl, -, -, -, -, -, -⟩ := In.form hx
  obtain ⟨neg, dg, ex⟩ := n
  have hmn := Sh.may_num hm
  have HT := Lib.hid hT
  clear hx hm hT
  have HP := Lib.hid (show Part10 w.heap.size #[.int .i64 k, .bool b, .bool neg, .string ⟨dg.toArray⟩, .int .i64 ex, .string ⟨s.toArray⟩, .slice A l.length e, .slice B m.length d] w (w.alloc (.cells #[.int .i64 k, .bool b, .bool neg, .string ⟨dg.toArray⟩, .int .i64 ex, .string ⟨s.toArray⟩, .slice A l.length e, .slice B m.length d] 28)) from ⟨Blk.new w _ _, (Below.refl w.heap.size w).alloc (Nat.le_refl _) _⟩)
  by_cases h2 : k = 2
  · subst h2
    have HF := Lib.hid (Sh.count_eq (b := b) (s := s) (l := l) (m := m) hmn)
    have HFA := Lib.hid (Sh.may_fair hmn)
    have HWH := Lib.hid (fun (W : World) => whole_any neg dg ex W)
    have HOF := Lib.hid (fun (W : World) (h : Part10 w.heap.size #[.int .i64 2, .bool b, .bool neg, .string ⟨dg.toArray⟩, .int .i64 ex, .string ⟨s.toArray⟩, .slice A l.length e, .slice B m.length d] w W) => of_any 0 W (by decide) (by decide) (HT.out.keep h.since))
    have HCM := Lib.hid (fun (W : World) (h : Part10 w.heap.size #[.int .i64 2, .bool b, .bool neg, .string ⟨dg.toArray⟩, .int .i64 ex, .string ⟨s.toArray⟩, .slice A l.length e, .slice B m.length d] w W) => cmp_any neg dg ex false [] 0 W HFA.out ⟨by simp, by decide, by decide⟩)
    rw [Sh.ofZero, show numV Nm.Num.zero = .agg #[.bool false, .string ⟨([] : List UInt8).toArray⟩, .int .i64 0] from rfl] at HOF
    rw [show (⟨false, [], 0⟩ : Nm.Num) = Nm.Num.zero from rfl] at HCM
    simp only at HF
    generalize Nm.cmp ⟨neg, dg, ex⟩ Nm.Num.zero = c at HF HCM
    obtain ⟨r, hr⟩ : ∃ r, decide (0 ≤ c) = r := ⟨_, rfl⟩
    have hr2 : decide (c ≥ 0) = r := hr
    rw [hr] at HF
    clear hmn
    by_cases h0 : 0 ≤ ex
    · rw [decide_eq_true h0] at HWH HF
      clear h0
      go_enter Tryd.func12, Tryd.ntmps12
      go_upto_region 1 with (fail)
      refine wp_region_held_drew (S := Part10 w.heap.size #[.int .i64 2, .bool b, .bool neg, .string ⟨dg.toArray⟩, .int .i64 ex, .string ⟨s.toArray⟩, .slice A l.length e, .slice B m.length d] w) (by kernel_rfl) HP.out.drew (fun ht => ?_)
      refine wpAnyH_take (i := 0) (oi := ⟨some _, _, _, _, _, _⟩) (v := (.pointer (some ⟨w.heap.size, 0, none⟩))) rfl (by kernel_rfl) (by kernel_rfl) (by kernel_rfl) (fun _ _ _ h => h) (Or.inl ⟨by rfl, ?_⟩) ht ?_
      · intro W9 hSw
        obtain ⟨e0, e1, e2, e3, e4, e5, e6, e7⟩ := hSw.v.eight
        go_simp
      try simp only [Act.put, List.setIfInBounds_toArray, List.set_cons_zero, List.set_cons_succ]
      refine wpAnyH_take (i := 1) (oi := ⟨some _, _, _, _, _, _⟩) (v := (.int .i64 2)) rfl (by kernel_rfl) (by kernel_rfl) (by kernel_rfl) (fun _ _ _ h => h) (Or.inl ⟨by rfl, ?_⟩) ht ?_
      · intro W9 hSw
        obtain ⟨e0, e1, e2, e3, e4, e5, e6, e7⟩ := hSw.v.eight
        go_simp
      try simp only [Act.put, List.setIfInBounds_toArray, List.set_cons_zero, List.set_cons_succ]
      refine wpAnyH_take (i := 2) (oi := ⟨some _, _, _, _, _, _⟩) (v := (.bool true)) rfl (by kernel_rfl) (by kernel_rfl) (by kernel_rfl) (fun _ _ _ h => h) (Or.inl ⟨by rfl, ?_⟩) ht ?_
      · intro W9 hSw
        obtain ⟨e0, e1, e2, e3, e4, e5, e6, e7⟩ := hSw.v.eight
        go_simp
      try simp only [Act.put, List.setIfInBounds_toArray, List.set_cons_zero, List.set_cons_succ]
      refine wpAnyH_take (i := 3) (oi := ⟨some _, _, _, _, _, _⟩) (v := (.bool true)) rfl (by kernel_rfl) (by kernel_rfl) (by kernel_rfl) (fun _ _ _ h => h) (Or.inl ⟨by rfl, ?_⟩) ht ?_
      · intro W9 hSw
        obtain ⟨e0, e1, e2, e3, e4, e5, e6, e7⟩ := hSw.v.eight
        go_simp
      try simp only [Act.put, List.setIfInBounds_toArray, List.set_cons_zero, List.set_cons_succ]
      refine wpAnyH_take (i := 4) (oi := ⟨some _, _, _, _, _, _⟩) (v := (.pointer (some ⟨w.heap.size, 2, none⟩))) rfl (by kernel_rfl) (by kernel_rfl) (by kernel_rfl) (fun _ _ _ h => h) (Or.inl ⟨by rfl, ?_⟩) ht ?_
      · intro W9 hSw
        obtain ⟨e0, e1, e2, e3, e4, e5, e6, e7⟩ := hSw.v.eight
        go_simp
      try simp only [Act.put, List.setIfInBounds_toArray, List.set_cons_zero, List.set_cons_succ]
      refine wpAnyH_take (i := 5) (oi := ⟨some _, _, _, _, _, _⟩) (v := (.agg #[.bool neg, .string ⟨dg.toArray⟩, .int .i64 ex])) rfl (by kernel_rfl) (by kernel_rfl) (by kernel_rfl) (fun _ _ _ h => h) (Or.inl ⟨by rfl, ?_⟩) ht ?_
      · intro W9 hSw
        obtain ⟨e0, e1, e2, e3, e4, e5, e6, e7⟩ := hSw.v.eight
        go_simp
      try simp only [Act.put, List.setIfInBounds_toArray, List.set_cons_zero, List.set_cons_succ]
      refine wpAnyH_ready (rs := [6]) (by kernel_rfl) (by simp) ?_
      refine AllReadyH.cons (o := ⟨some _, _, _, _, _, _⟩) rfl (fun K hK => ?_) AllReadyH.nil
      go_simp
      refine (HWH.out _).mono ?_
      rintro e66 w66 ⟨rfl, hb66⟩
      have hs : Part10 w.heap.size #[.int .i64 2, .bool b, .bool neg, .string ⟨dg.toArray⟩, .int .i64 ex, .string ⟨s.toArray⟩, .slice A l.length e, .slice B m.length d] w w66 := Part10.on ht hb66
      clear hb66 ht
      go_wp2_with fail
      refine hK.out _ _ hs (fun ht => ?_)
      clear hK K hs
      try simp only [Act.put, List.setIfInBounds_toArray, List.set_cons_zero, List.set_cons_succ]
      refine wpAnyH_take (i := 7) (oi := ⟨some _, _, _, _, _, _⟩) (v := (.bool true)) rfl (by kernel_rfl) (by kernel_rfl) (by kernel_rfl) (fun _ _ _ h => h) (Or.inl ⟨by rfl, ?_⟩) ht ?_
      · intro W9 hSw
        obtain ⟨e0, e1, e2, e3, e4, e5, e6, e7⟩ := hSw.v.eight
        go_simp
      try simp only [Act.put, List.setIfInBounds_toArray, List.set_cons_zero, List.set_cons_succ]
      refine wpAnyH_take (i := 8) (oi := ⟨some _, _, _, _, _, _⟩) (v := (.bool true)) rfl (by kernel_rfl) (by kernel_rfl) (by kernel_rfl) (fun _ _ _ h => h) (Or.inl ⟨by rfl, ?_⟩) ht ?_
      · intro W9 hSw
        obtain ⟨e0, e1, e2, e3, e4, e5, e6, e7⟩ := hSw.v.eight
        go_simp
      try simp only [Act.put, List.setIfInBounds_toArray, List.set_cons_zero, List.set_cons_succ]
      refine wpAnyH_take (i := 9) (oi := ⟨some _, _, _, _, _, _⟩) (v := (.pointer (some ⟨w.heap.size, 2, none⟩))) rfl (by kernel_rfl) (by kernel_rfl) (by kernel_rfl) (fun _ _ _ h => h) (Or.inl ⟨by rfl, ?_⟩) ht ?_
      · intro W9 hSw
        obtain ⟨e0, e1, e2, e3, e4, e5, e6, e7⟩ := hSw.v.eight
        go_simp
      try simp only [Act.put, List.setIfInBounds_toArray, List.set_cons_zero, List.set_cons_succ]
      refine wpAnyH_take (i := 10) (oi := ⟨some _, _, _, _, _, _⟩) (v := (.agg #[.bool neg, .string ⟨dg.toArray⟩, .int .i64 ex])) rfl (by kernel_rfl) (by kernel_rfl) (by kernel_rfl) (fun _ _ _ h => h) (Or.inl ⟨by rfl, ?_⟩) ht ?_
      · intro W9 hSw
        obtain ⟨e0, e1, e2, e3, e4, e5, e6, e7⟩ := hSw.v.eight
        go_simp
      try simp only [Act.put, List.setIfInBounds_toArray, List.set_cons_zero, List.set_cons_succ]
      refine wpAnyH_ready (rs := [11]) (by kernel_rfl) (by simp) ?_
      refine AllReadyH.cons (o := ⟨some _, _, _, _, _, _⟩) rfl (fun K hK => ?_) AllReadyH.nil
      go_simp
      refine (HOF.out _ ht).mono ?_
      rintro e66 w66 ⟨rfl, hb66⟩
      have hs : Part10 w.heap.size #[.int .i64 2, .bool b, .bool neg, .string ⟨dg.toArray⟩, .int .i64 ex, .string ⟨s.toArray⟩, .slice A l.length e, .slice B m.length d] w w66 := Part10.on ht hb66
      clear hb66 ht
      go_wp2_with fail
      refine hK.out _ _ hs (fun ht => ?_)
      clear hK K hs
      try simp only [Act.put, List.setIfInBounds_toArray, List.set_cons_zero, List.set_cons_succ]
      refine wpAnyH_ready (rs := [12]) (by kernel_rfl) (by simp) ?_
      refine AllReadyH.cons (o := ⟨some _, _, _, _, _, _⟩) rfl (fun K hK => ?_) AllReadyH.nil
      go_simp
      refine (HCM.out _ ht).mono ?_
      rintro e66 w66 ⟨rfl, hb66⟩
      have hs : Part10 w.heap.size #[.int .i64 2, .bool b, .bool neg, .string ⟨dg.toArray⟩, .int .i64 ex, .string ⟨s.toArray⟩, .slice A l.length e, .slice B m.length d] w w66 := Part10.on ht hb66
      clear hb66 ht
      go_wp2_with fail
      refine hK.out _ _ hs (fun ht => ?_)
      clear hK K hs
      try simp only [Act.put, List.setIfInBounds_toArray, List.set_cons_zero, List.set_cons_succ]
      refine wpAnyH_take (i := 13) (oi := ⟨some _, _, _, _, _, _⟩) (v := (.bool r)) rfl (by kernel_rfl) (by kernel_rfl) (by kernel_rfl) (fun _ _ _ h => h) (Or.inl ⟨by rfl, ?_⟩) ht ?_
      · intro W9 hSw
        obtain ⟨e0, e1, e2, e3, e4, e5, e6, e7⟩ := hSw.v.eight
        go_simp
      try simp only [Act.put, List.setIfInBounds_toArray, List.set_cons_zero, List.set_cons_succ]
      refine wpAnyH_take (i := 14) (oi := ⟨some _, _, _, _, _, _⟩) (v := (.bool r)) rfl (by kernel_rfl) (by kernel_rfl) (by kernel_rfl) (fun _ _ _ h => h) (Or.inl ⟨by rfl, ?_⟩) ht ?_
      · intro W9 hSw
        obtain ⟨e0, e1, e2, e3, e4, e5, e6, e7⟩ := hSw.v.eight
        go_simp
      try simp only [Act.put, List.setIfInBounds_toArray, List.set_cons_zero, List.set_cons_succ]
      refine wpAnyH_take (i := 15) (oi := ⟨some _, _, _, _, _, _⟩) (v := (.bool r)) rfl (by kernel_rfl) (by kernel_rfl) (by kernel_rfl) (fun _ _ _ h => h) (Or.inl ⟨by rfl, ?_⟩) ht ?_
      · intro W9 hSw
        obtain ⟨e0, e1, e2, e3, e4, e5, e6, e7⟩ := hSw.v.eight
        go_simp
      try simp only [Act.put, List.setIfInBounds_toArray, List.set_cons_zero, List.set_cons_succ]
      refine wpAnyH_done (by kernel_rfl) ?_ _
      have HX := Lib.hid ht
      clear ht
      go_wp2_with fail
      go_ret
      exact ⟨by rw [HF.out]; simp, HX.out.since⟩
    · rw [decide_eq_false h0] at HWH HF
      clear h0
      go_enter Tryd.func12, Tryd.ntmps12
      go_upto_region 1 with (fail)
      refine wp_region_held_drew (S := Part10 w.heap.size #[.int .i64 2, .bool b, .bool neg, .string ⟨dg.toArray⟩, .int .i64 ex, .string ⟨s.toArray⟩, .slice A l.length e, .slice B m.length d] w) (by kernel_rfl) HP.out.drew (fun ht => ?_)
      refine wpAnyH_take (i := 0) (oi := ⟨some _, _, _, _, _, _⟩) (v := (.pointer (some ⟨w.heap.size, 0, none⟩))) rfl (by kernel_rfl) (by kernel_rfl) (by kernel_rfl) (fun _ _ _ h => h) (Or.inl ⟨by rfl, ?_⟩) ht ?_
      · intro W9 hSw
        obtain ⟨e0, e1, e2, e3, e4, e5, e6, e7⟩ := hSw.v.eight
        go_simp
      try simp only [Act.put, List.setIfInBounds_toArray, List.set_cons_zero, List.set_cons_succ]
      refine wpAnyH_take (i := 1) (oi := ⟨some _, _, _, _, _, _⟩) (v := (.int .i64 2)) rfl (by kernel_rfl) (by kernel_rfl) (by kernel_rfl) (fun _ _ _ h => h) (Or.inl ⟨by rfl, ?_⟩) ht ?_
      · intro W9 hSw
        obtain ⟨e0, e1, e2, e3, e4, e5, e6, e7⟩ := hSw.v.eight
        go_simp
      try simp only [Act.put, List.setIfInBounds_toArray, List.set_cons_zero, List.set_cons_succ]
      refine wpAnyH_take (i := 2) (oi := ⟨some _, _, _, _, _, _⟩) (v := (.bool true)) rfl (by kernel_rfl) (by kernel_rfl) (by kernel_rfl) (fun _ _ _ h => h) (Or.inl ⟨by rfl, ?_⟩) ht ?_
      · intro W9 hSw
        obtain ⟨e0, e1, e2, e3, e4, e5, e6, e7⟩ := hSw.v.eight
        go_simp
      try simp only [Act.put, List.setIfInBounds_toArray, List.set_cons_zero, List.set_cons_succ]
      refine wpAnyH_take (i := 3) (oi := ⟨some _, _, _, _, _, _⟩) (v := (.bool true)) rfl (by kernel_rfl) (by kernel_rfl) (by kernel_rfl) (fun _ _ _ h => h) (Or.inl ⟨by rfl, ?_⟩) ht ?_
      · intro W9 hSw
        obtain ⟨e0, e1, e2, e3, e4, e5, e6, e7⟩ := hSw.v.eight
        go_simp
      try simp only [Act.put, List.setIfInBounds_toArray, List.set_cons_zero, List.set_cons_succ]
      refine wpAnyH_take (i := 4) (oi := ⟨some _, _, _, _, _, _⟩) (v := (.pointer (some ⟨w.heap.size, 2, none⟩))) rfl (by kernel_rfl) (by kernel_rfl) (by kernel_rfl) (fun _ _ _ h => h) (Or.inl ⟨by rfl, ?_⟩) ht ?_
      · intro W9 hSw
        obtain ⟨e0, e1, e2, e3, e4, e5, e6, e7⟩ := hSw.v.eight
        go_simp
      try simp only [Act.put, List.setIfInBounds_toArray, List.set_cons_zero, List.set_cons_succ]
      refine wpAnyH_take (i := 5) (oi := ⟨some _, _, _, _, _, _⟩) (v := (.agg #[.bool neg, .string ⟨dg.toArray⟩, .int .i64 ex])) rfl (by kernel_rfl) (by kernel_rfl) (by kernel_rfl) (fun _ _ _ h => h) (Or.inl ⟨by rfl, ?_⟩) ht ?_
      · intro W9 hSw
        obtain ⟨e0, e1, e2, e3, e4, e5, e6, e7⟩ := hSw.v.eight
        go_simp
      try simp only [Act.put, List.setIfInBounds_toArray, List.set_cons_zero, List.set_cons_succ]
      refine wpAnyH_ready (rs := [6]) (by kernel_rfl) (by simp) ?_
      refine AllReadyH.cons (o := ⟨some _, _, _, _, _, _⟩) rfl (fun K hK => ?_) AllReadyH.nil
      go_simp
      refine (HWH.out _).mono ?_
      rintro e66 w66 ⟨rfl, hb66⟩
      have hs : Part10 w.heap.size #[.int .i64 2, .bool b, .bool neg, .string ⟨dg.toArray⟩, .int .i64 ex, .string ⟨s.toArray⟩, .slice A l.length e, .slice B m.length d] w w66 := Part10.on ht hb66
      clear hb66 ht
      go_wp2_with fail
      refine hK.out _ _ hs (fun ht => ?_)
      clear hK K hs
      try simp only [Act.put, List.setIfInBounds_toArray, List.set_cons_zero, List.set_cons_succ]
      refine wpAnyH_take (i := 7) (oi := ⟨some _, _, _, _, _, _⟩) (v := (.bool false)) rfl (by kernel_rfl) (by kernel_rfl) (by kernel_rfl) (fun _ _ _ h => h) (Or.inl ⟨by rfl, ?_⟩) ht ?_
      · intro W9 hSw
        obtain ⟨e0, e1, e2, e3, e4, e5, e6, e7⟩ := hSw.v.eight
        go_simp
      try simp only [Act.put, List.setIfInBounds_toArray, List.set_cons_zero, List.set_cons_succ]
      refine wpAnyH_take (i := 8) (oi := ⟨some _, _, _, _, _, _⟩) (v := (.bool false)) rfl (by kernel_rfl) (by kernel_rfl) (by kernel_rfl) (fun _ _ _ h => h) (Or.inl ⟨by rfl, ?_⟩) ht ?_
      · intro W9 hSw
        obtain ⟨e0, e1, e2, e3, e4, e5, e6, e7⟩ := hSw.v.eight
        go_simp
      try simp only [Act.put, List.setIfInBounds_toArray, List.set_cons_zero, List.set_cons_succ]
      refine wpAnyH_take (i := 9) (oi := ⟨some _, _, _, _, _, _⟩) (v := undef) rfl (by kernel_rfl) (by kernel_rfl) (by kernel_rfl) (fun _ _ _ h => h) (Or.inr ⟨by rfl, rfl⟩) ht ?_
      try simp only [Act.put, List.setIfInBounds_toArray, List.set_cons_zero, List.set_cons_succ]
      refine wpAnyH_take (i := 10) (oi := ⟨some _, _, _, _, _, _⟩) (v := undef) rfl (by kernel_rfl) (by kernel_rfl) (by kernel_rfl) (fun _ _ _ h => h) (Or.inr ⟨by rfl, rfl⟩) ht ?_
      try simp only [Act.put, List.setIfInBounds_toArray, List.set_cons_zero, List.set_cons_succ]
      refine wpAnyH_take (i := 11) (oi := ⟨some _, _, _, _, _, _⟩) (v := undef) rfl (by kernel_rfl) (by kernel_rfl) (by kernel_rfl) (fun _ _ _ h => h) (Or.inr ⟨by rfl, rfl⟩) ht ?_
      try simp only [Act.put, List.setIfInBounds_toArray, List.set_cons_zero, List.set_cons_succ]
      refine wpAnyH_take (i := 12) (oi := ⟨some _, _, _, _, _, _⟩) (v := undef) rfl (by kernel_rfl) (by kernel_rfl) (by kernel_rfl) (fun _ _ _ h => h) (Or.inr ⟨by rfl, rfl⟩) ht ?_
      try simp only [Act.put, List.setIfInBounds_toArray, List.set_cons_zero, List.set_cons_succ]
      refine wpAnyH_take (i := 13) (oi := ⟨some _, _, _, _, _, _⟩) (v := undef) rfl (by kernel_rfl) (by kernel_rfl) (by kernel_rfl) (fun _ _ _ h => h) (Or.inr ⟨by rfl, rfl⟩) ht ?_
      try simp only [Act.put, List.setIfInBounds_toArray, List.set_cons_zero, List.set_cons_succ]
      refine wpAnyH_take (i := 14) (oi := ⟨some _, _, _, _, _, _⟩) (v := (.bool false)) rfl (by kernel_rfl) (by kernel_rfl) (by kernel_rfl) (fun _ _ _ h => h) (Or.inl ⟨by rfl, ?_⟩) ht ?_
      · intro W9 hSw
        obtain ⟨e0, e1, e2, e3, e4, e5, e6, e7⟩ := hSw.v.eight
        go_simp
      try simp only [Act.put, List.setIfInBounds_toArray, List.set_cons_zero, List.set_cons_succ]
      refine wpAnyH_take (i := 15) (oi := ⟨some _, _, _, _, _, _⟩) (v := (.bool false)) rfl (by kernel_rfl) (by kernel_rfl) (by kernel_rfl) (fun _ _ _ h => h) (Or.inl ⟨by rfl, ?_⟩) ht ?_
      · intro W9 hSw
        obtain ⟨e0, e1, e2, e3, e4, e5, e6, e7⟩ := hSw.v.eight
        go_simp
      try simp only [Act.put, List.setIfInBounds_toArray, List.set_cons_zero, List.set_cons_succ]
      refine wpAnyH_done (by kernel_rfl) ?_ _
      have HX := Lib.hid ht
      clear ht
      go_wp2_with fail
      go_ret
      exact ⟨by rw [HF.out]; simp, HX.out.since⟩
  · have t2 : (k == 2) = false := by simpa using h2
    have HF := Lib.hid (Sh.count_no (b := b) (n := ⟨neg, dg, ex⟩) (s := s) (l := l) (m := m) h2)
    clear h2 hmn
    go_enter Tryd.func12, Tryd.ntmps12
    go_upto_region 1 with (fail)
    go_quiet (fail)
    go_wp2_with fail
    go_ret
    exact ⟨by rw [HF.out]; rfl, below_drewN HP.out.since _⟩

end Go.Proofs.YtfolfibembplbaaDoor

