/- The walk of NumTells: a count. -/
import Derived.Test.YtfconmjgedaifaaDoorTi
namespace Go.Proofs.YtfconmjgedaifaaDoor
open Go.RowKit

set_option maxRecDepth 100000 in
set_option linter.unusedSimpArgs false in
set_option maxHeartbeats 4000000 in
theorem numTells_in (s t : ByteArray) (k : Int) (w : World) (htab : Tab w) (ls : s.size ≤ 500) (lt : t.size ≤ 500) (hk0 : -9223372036854775808 ≤ k) (hk1 : k ≤ 9223372036854775807) (hkr0 : 0 ≤ k) (hkr1 : k < 1000000000)
    {na : Bool} {da : List UInt8} {xa ea : Int} {nb : Bool} {db : List UInt8} {xb eb : Int}
    (ha : Nm.parse s.data.toList = (⟨na, da, xa⟩, ea)) (hb : Nm.parse t.data.toList = (⟨nb, db, xb⟩, eb)) :
    Calls Tryd.prog 3 #[.string s, .string t, .int .i64 k] w fun e w' => e = .returned (.bool true) ∧ Below w.heap.size w w' := by
  have hma := Nm.parse_may s.data.toList
  have hmb := Nm.parse_may t.data.toList
  have her := Nm.err_range s.data.toList
  rw [ha] at hma her
  rw [hb] at hmb
  have HT := Lib.hid htab
  clear htab
  have HA := Lib.hid ha
  have HB := Lib.hid hb
  clear ha hb
  have HLS := Lib.hid (Nm.numLaw s.data.toList (by rw [← Lib.size_eq]; omega))
  have HLT := Lib.hid (Nm.numLaw t.data.toList (by rw [← Lib.size_eq]; omega))
  go_enter Tryd.func3, Tryd.ntmps3
  go_wp2_with fail
  refine (up_any _ HT.out).mono ?_
  rintro e w0 ⟨rfl, hb0⟩
  go_wp2_with fail
  refine (parse_any _ _ (by omega)).mono ?_
  rw [HA.out]
  rintro e w1 ⟨rfl, hb1⟩
  go_wp2_with fail
  refine (number_any _ _ (by omega) HLS.out).mono ?_
  rw [HA.out]
  rintro e w2 ⟨rfl, hb2⟩
  have hA2 := (NumAt.new w1 na da xa 24).on hb2
  have hz1 := hb1.size
  have hz2 := hb2.size
  simp at hz2
  have k12 : w1.heap.size < w2.heap.size := by omega
  obtain ⟨p0, p1, p2⟩ := hA2
  go_wp2_with fail
  refine (code_any ea _ her.1 her.2).mono ?_
  rintro e w3 ⟨rfl, rfl⟩
  go_wp2_with fail
  refine (number_any _ _ (by omega) HLT.out).mono ?_
  rw [HB.out]
  rintro e w3 ⟨rfl, hb3⟩
  have hX3 := (NumAt.new w2 na da xa 24).on hb3
  have hz3 := hb3.size
  simp at hz3
  have k23 : w2.heap.size < w3.heap.size := by omega
  have h02 : Below w.heap.size w w2 := hb0.trans ((hb1.mono hb0.size).trans (((Below.refl w.heap.size w1).alloc (by have := hb0.size; omega) _).trans (hb2.mono (by have := hb0.size; simp; omega))))
  have h03 : Below w.heap.size w w3 := h02.trans (((Below.refl w.heap.size w2).alloc h02.size _).trans (hb3.mono (by have := h02.size; simp; omega)))
  clear hb1 hb2 hb3 p0 p1 p2 h02
  obtain ⟨p0, p1, p2⟩ := hX3
  have hal : (da.isEmpty || decide (0 ≤ xa)) = decide (0 ≤ xa) := Nm.at_least ⟨na, da, xa⟩ hma
  have HAL := Lib.hid hal
  have HRC := Lib.hid (Nm.refCmp_eq _ _ hma hmb)
  have HFA := Lib.hid hma.fair
  have HFB := Lib.hid hmb.fair
  have HSA := Lib.hid hma.small
  have HSB := Lib.hid hmb.small
  clear hal hma hmb
  rcases hkc : Nm.parse (Lib.itoa k) with ⟨⟨kn, kd, kx⟩, kc⟩
  have HKC := Lib.hid hkc
  clear hkc
  by_cases heb : eb = 0
  · subst heb
    go_wp2_with fail
    refine (of_any _ _ hk0 hk1 (HT.out.keep (h03.alloc h03.size _))).mono ?_
    rw [HKC.out]
    rintro e w4 ⟨rfl, hb4⟩
    go_wp2_with fail
    refine (refOf_any _ _ hkr0 (by omega)).mono ?_
    rw [HKC.out]
    rintro e w5 ⟨rfl, hb5⟩
    go_wp2_with fail
    have hF : PairAt w w2.heap.size w3.heap.size na da xa nb db xb _ := (PairAt.drew ((PairAt.on (PairAt.on ⟨NumAt.alloc ⟨p0, p1, p2⟩ _, NumAt.new w3 nb db xb 24, h03.alloc h03.size _⟩ hb4) hb5)))
    have HF := Lib.hid hF
    clear hF
    go_region_held3 (fun w' => (w'.cell? ⟨w2.heap.size, 0, none⟩ = some (.bool na) ∧ w'.cell? ⟨w2.heap.size, 1, none⟩ = some (.string ⟨da.toArray⟩) ∧ w'.cell? ⟨w2.heap.size, 2, none⟩ = some (.int .i64 xa)) ∧ (w'.cell? ⟨w3.heap.size, 0, none⟩ = some (.bool nb) ∧ w'.cell? ⟨w3.heap.size, 1, none⟩ = some (.string ⟨db.toArray⟩) ∧ w'.cell? ⟨w3.heap.size, 2, none⟩ = some (.int .i64 xb)) ∧ Below w.heap.size w w')
      ((show PairAt w w2.heap.size w3.heap.size na da xa nb db xb _; first | (with_reducible exact ht) | (with_reducible exact HF.out)))
      (first | (go_at_call 16; refine (show_any _ _ _ _ HFA.out (by have hp : PairAt w w2.heap.size w3.heap.size na da xa nb db xb _ := (by with_reducible first | exact ht | exact HF.out); exact HT.out.keep hp.2.2)).mono ?_; rintro e w6 ⟨rfl, hb6⟩; have ht := PairAt.on (w := w) (A := w2.heap.size) (B := w3.heap.size) (na := na) (da := da) (xa := xa) (nb := nb) (db := db) (xb := xb) (by with_reducible first | exact ht | exact HF.out) hb6; clear hb6) | (go_at_call 17; refine (refShow_any _ _ _ _ HFA.out).mono ?_; rintro e w6 ⟨rfl, hb6⟩; have ht := PairAt.on (w := w) (A := w2.heap.size) (B := w3.heap.size) (na := na) (da := da) (xa := xa) (nb := nb) (db := db) (xb := xb) (by with_reducible first | exact ht | exact HF.out) hb6; clear hb6) | (go_at_call 18; refine (whole_any _ _ _ _).mono ?_; rintro e w6 ⟨rfl, hb6⟩; have ht := PairAt.on (w := w) (A := w2.heap.size) (B := w3.heap.size) (na := na) (da := da) (xa := xa) (nb := nb) (db := db) (xb := xb) (by with_reducible first | exact ht | exact HF.out) hb6; clear hb6) | (go_at_call 19; refine (refWhole_any _ _ _ _).mono ?_; rw [HAL.out]; rintro e w6 ⟨rfl, hb6⟩; have ht := PairAt.on (w := w) (A := w2.heap.size) (B := w3.heap.size) (na := na) (da := da) (xa := xa) (nb := nb) (db := db) (xb := xb) (by with_reducible first | exact ht | exact HF.out) hb6; clear hb6) | (go_at_call 20; refine (cmp_any _ _ _ _ _ _ _ HFA.out HFB.out).mono ?_; rintro e w6 ⟨rfl, hb6⟩; have ht := PairAt.on (w := w) (A := w2.heap.size) (B := w3.heap.size) (na := na) (da := da) (xa := xa) (nb := nb) (db := db) (xb := xb) (by with_reducible first | exact ht | exact HF.out) hb6; clear hb6) | (go_at_call 21; refine (refCmp_any _ _ _ _ _ _ _ HSA.out HSB.out).mono ?_; rw [HRC.out]; rintro e w6 ⟨rfl, hb6⟩; have ht := PairAt.on (w := w) (A := w2.heap.size) (B := w3.heap.size) (na := na) (da := da) (xa := xa) (nb := nb) (db := db) (xb := xb) (by with_reducible first | exact ht | exact HF.out) hb6; clear hb6))
    have hbl := ht.2.2
    clear ht
    go_wp2
    go_ret
    exact ⟨rfl, hbl⟩
  · have hebn : (eb != 0) = true := by simpa using heb
    clear heb
    go_wp2_with fail
    refine (of_any _ _ hk0 hk1 (HT.out.keep (h03.alloc h03.size _))).mono ?_
    rw [HKC.out]
    rintro e w4 ⟨rfl, hb4⟩
    go_wp2_with fail
    refine (refOf_any _ _ hkr0 (by omega)).mono ?_
    rw [HKC.out]
    rintro e w5 ⟨rfl, hb5⟩
    go_wp2_with fail
    have hF : PairAt w w2.heap.size w3.heap.size na da xa nb db xb _ := (PairAt.drew ((PairAt.on (PairAt.on ⟨NumAt.alloc ⟨p0, p1, p2⟩ _, NumAt.new w3 nb db xb 24, h03.alloc h03.size _⟩ hb4) hb5)))
    refine wp_region_held_drew (S := PairAt w w2.heap.size w3.heap.size na da xa nb db xb) (by kernel_rfl) hF (fun ht => ?_)
    clear hF
    refine wpAnyH_take (i := 0) (oi := ⟨some _, _, _, _, _, _⟩) (v := (.bool true)) rfl (by kernel_rfl) (by kernel_rfl) (by kernel_rfl) (fun _ _ _ h => h) (Or.inl ⟨by rfl, ?_⟩) ht ?_
    · intro W hSw
      obtain ⟨⟨c0, c1, c2⟩, ⟨c3, c4, c5⟩, cb⟩ := hSw
      go_simp
    try simp only [Act.put, List.setIfInBounds_toArray, List.set_cons_zero, List.set_cons_succ]
    refine wpAnyH_take (i := 1) (oi := ⟨some _, _, _, _, _, _⟩) (v := (.bool true)) rfl (by kernel_rfl) (by kernel_rfl) (by kernel_rfl) (fun _ _ _ h => h) (Or.inl ⟨by rfl, ?_⟩) ht ?_
    · intro W hSw
      obtain ⟨⟨c0, c1, c2⟩, ⟨c3, c4, c5⟩, cb⟩ := hSw
      go_simp
    try simp only [Act.put, List.setIfInBounds_toArray, List.set_cons_zero, List.set_cons_succ]
    refine wpAnyH_take (i := 2) (oi := ⟨some _, _, _, _, _, _⟩) (v := (.agg #[.bool na, .string ⟨da.toArray⟩, .int .i64 xa])) rfl (by kernel_rfl) (by kernel_rfl) (by kernel_rfl) (fun _ _ _ h => h) (Or.inl ⟨by rfl, ?_⟩) ht ?_
    · intro W hSw
      obtain ⟨⟨c0, c1, c2⟩, ⟨c3, c4, c5⟩, cb⟩ := hSw
      go_simp
    try simp only [Act.put, List.setIfInBounds_toArray, List.set_cons_zero, List.set_cons_succ]
    refine wpAnyH_take (i := 4) (oi := ⟨some _, _, _, _, _, _⟩) (v := (.agg #[.bool na, .string ⟨da.toArray⟩, .int .i64 xa])) rfl (by kernel_rfl) (by kernel_rfl) (by kernel_rfl) (fun _ _ _ h => h) (Or.inl ⟨by rfl, ?_⟩) ht ?_
    · intro W hSw
      obtain ⟨⟨c0, c1, c2⟩, ⟨c3, c4, c5⟩, cb⟩ := hSw
      go_simp
    try simp only [Act.put, List.setIfInBounds_toArray, List.set_cons_zero, List.set_cons_succ]
    refine wpAnyH_ready (rs := [3]) (by kernel_rfl) (by simp) ?_
    refine AllReadyH.cons (o := ⟨some _, _, _, _, _, _⟩) rfl (fun K hK => ?_) AllReadyH.nil
    go_simp
    refine (show_any _ _ _ _ HFA.out (HT.out.keep ht.2.2)).mono ?_
    rintro e w6 ⟨rfl, hb6⟩
    have hs : PairAt w w2.heap.size w3.heap.size na da xa nb db xb w6 := ht.on hb6
    clear hb6 ht
    go_wp2_with fail
    refine hK.out _ _ hs (fun ht => ?_)
    clear hK K hs
    try simp only [Act.put, List.setIfInBounds_toArray, List.set_cons_zero, List.set_cons_succ]
    refine wpAnyH_ready (rs := [5]) (by kernel_rfl) (by simp) ?_
    refine AllReadyH.cons (o := ⟨some _, _, _, _, _, _⟩) rfl (fun K hK => ?_) AllReadyH.nil
    go_simp
    refine (refShow_any _ _ _ _ HFA.out).mono ?_
    rintro e w6 ⟨rfl, hb6⟩
    have hs : PairAt w w2.heap.size w3.heap.size na da xa nb db xb w6 := ht.on hb6
    clear hb6 ht
    go_wp2_with fail
    refine hK.out _ _ hs (fun ht => ?_)
    clear hK K hs
    try simp only [Act.put, List.setIfInBounds_toArray, List.set_cons_zero, List.set_cons_succ]
    refine wpAnyH_take (i := 6) (oi := ⟨some _, _, _, _, _, _⟩) (v := (.bool true)) rfl (by kernel_rfl) (by kernel_rfl) (by kernel_rfl) (fun _ _ _ h => h) (Or.inl ⟨by rfl, ?_⟩) ht ?_
    · intro W hSw
      obtain ⟨⟨c0, c1, c2⟩, ⟨c3, c4, c5⟩, cb⟩ := hSw
      go_simp
    try simp only [Act.put, List.setIfInBounds_toArray, List.set_cons_zero, List.set_cons_succ]
    refine wpAnyH_take (i := 7) (oi := ⟨some _, _, _, _, _, _⟩) (v := (.bool true)) rfl (by kernel_rfl) (by kernel_rfl) (by kernel_rfl) (fun _ _ _ h => h) (Or.inl ⟨by rfl, ?_⟩) ht ?_
    · intro W hSw
      obtain ⟨⟨c0, c1, c2⟩, ⟨c3, c4, c5⟩, cb⟩ := hSw
      go_simp
    try simp only [Act.put, List.setIfInBounds_toArray, List.set_cons_zero, List.set_cons_succ]
    refine wpAnyH_take (i := 8) (oi := ⟨some _, _, _, _, _, _⟩) (v := (.bool true)) rfl (by kernel_rfl) (by kernel_rfl) (by kernel_rfl) (fun _ _ _ h => h) (Or.inl ⟨by rfl, ?_⟩) ht ?_
    · intro W hSw
      obtain ⟨⟨c0, c1, c2⟩, ⟨c3, c4, c5⟩, cb⟩ := hSw
      go_simp
    try simp only [Act.put, List.setIfInBounds_toArray, List.set_cons_zero, List.set_cons_succ]
    refine wpAnyH_take (i := 9) (oi := ⟨some _, _, _, _, _, _⟩) (v := (.agg #[.bool na, .string ⟨da.toArray⟩, .int .i64 xa])) rfl (by kernel_rfl) (by kernel_rfl) (by kernel_rfl) (fun _ _ _ h => h) (Or.inl ⟨by rfl, ?_⟩) ht ?_
    · intro W hSw
      obtain ⟨⟨c0, c1, c2⟩, ⟨c3, c4, c5⟩, cb⟩ := hSw
      go_simp
    try simp only [Act.put, List.setIfInBounds_toArray, List.set_cons_zero, List.set_cons_succ]
    refine wpAnyH_take (i := 11) (oi := ⟨some _, _, _, _, _, _⟩) (v := (.agg #[.bool na, .string ⟨da.toArray⟩, .int .i64 xa])) rfl (by kernel_rfl) (by kernel_rfl) (by kernel_rfl) (fun _ _ _ h => h) (Or.inl ⟨by rfl, ?_⟩) ht ?_
    · intro W hSw
      obtain ⟨⟨c0, c1, c2⟩, ⟨c3, c4, c5⟩, cb⟩ := hSw
      go_simp
    try simp only [Act.put, List.setIfInBounds_toArray, List.set_cons_zero, List.set_cons_succ]
    refine wpAnyH_ready (rs := [10]) (by kernel_rfl) (by simp) ?_
    refine AllReadyH.cons (o := ⟨some _, _, _, _, _, _⟩) rfl (fun K hK => ?_) AllReadyH.nil
    go_simp
    refine (whole_any _ _ _ _).mono ?_
    rintro e w6 ⟨rfl, hb6⟩
    have hs : PairAt w w2.heap.size w3.heap.size na da xa nb db xb w6 := ht.on hb6
    clear hb6 ht
    go_wp2_with fail
    refine hK.out _ _ hs (fun ht => ?_)
    clear hK K hs
    try simp only [Act.put, List.setIfInBounds_toArray, List.set_cons_zero, List.set_cons_succ]
    refine wpAnyH_ready (rs := [12]) (by kernel_rfl) (by simp) ?_
    refine AllReadyH.cons (o := ⟨some _, _, _, _, _, _⟩) rfl (fun K hK => ?_) AllReadyH.nil
    go_simp
    refine (refWhole_any _ _ _ _).mono ?_
    rw [HAL.out]
    rintro e w6 ⟨rfl, hb6⟩
    have hs : PairAt w w2.heap.size w3.heap.size na da xa nb db xb w6 := ht.on hb6
    clear hb6 ht
    go_wp2_with fail
    refine hK.out _ _ hs (fun ht => ?_)
    clear hK K hs
    try simp only [Act.put, List.setIfInBounds_toArray, List.set_cons_zero, List.set_cons_succ]
    refine wpAnyH_take (i := 13) (oi := ⟨some _, _, _, _, _, _⟩) (v := (.bool true)) rfl (by kernel_rfl) (by kernel_rfl) (by kernel_rfl) (fun _ _ _ h => h) (Or.inl ⟨by rfl, ?_⟩) ht ?_
    · intro W hSw
      obtain ⟨⟨c0, c1, c2⟩, ⟨c3, c4, c5⟩, cb⟩ := hSw
      go_simp
    try simp only [Act.put, List.setIfInBounds_toArray, List.set_cons_zero, List.set_cons_succ]
    refine wpAnyH_take (i := 14) (oi := ⟨some _, _, _, _, _, _⟩) (v := (.bool true)) rfl (by kernel_rfl) (by kernel_rfl) (by kernel_rfl) (fun _ _ _ h => h) (Or.inl ⟨by rfl, ?_⟩) ht ?_
    · intro W hSw
      obtain ⟨⟨c0, c1, c2⟩, ⟨c3, c4, c5⟩, cb⟩ := hSw
      go_simp
    try simp only [Act.put, List.setIfInBounds_toArray, List.set_cons_zero, List.set_cons_succ]
    refine wpAnyH_take (i := 15) (oi := ⟨some _, _, _, _, _, _⟩) (v := (.bool true)) rfl (by kernel_rfl) (by kernel_rfl) (by kernel_rfl) (fun _ _ _ h => h) (Or.inl ⟨by rfl, ?_⟩) ht ?_
    · intro W hSw
      obtain ⟨⟨c0, c1, c2⟩, ⟨c3, c4, c5⟩, cb⟩ := hSw
      go_simp
    try simp only [Act.put, List.setIfInBounds_toArray, List.set_cons_zero, List.set_cons_succ]
    refine wpAnyH_take (i := 16) (oi := ⟨some _, _, _, _, _, _⟩) (v := (.int .i64 eb)) rfl (by kernel_rfl) (by kernel_rfl) (by kernel_rfl) (fun _ _ _ h => h) (Or.inl ⟨by rfl, ?_⟩) ht ?_
    · intro W hSw
      obtain ⟨⟨c0, c1, c2⟩, ⟨c3, c4, c5⟩, cb⟩ := hSw
      go_simp
    try simp only [Act.put, List.setIfInBounds_toArray, List.set_cons_zero, List.set_cons_succ]
    refine wpAnyH_take (i := 17) (oi := ⟨some _, _, _, _, _, _⟩) (v := (.bool true)) rfl (by kernel_rfl) (by kernel_rfl) (by kernel_rfl) (fun _ _ _ h => h) (Or.inl ⟨by rfl, ?_⟩) ht ?_
    · intro W hSw
      obtain ⟨⟨c0, c1, c2⟩, ⟨c3, c4, c5⟩, cb⟩ := hSw
      go_simp
    try simp only [Act.put, List.setIfInBounds_toArray, List.set_cons_zero, List.set_cons_succ]
    refine wpAnyH_take (i := 18) (oi := ⟨some _, _, _, _, _, _⟩) (v := (.bool true)) rfl (by kernel_rfl) (by kernel_rfl) (by kernel_rfl) (fun _ _ _ h => h) (Or.inl ⟨by rfl, ?_⟩) ht ?_
    · intro W hSw
      obtain ⟨⟨c0, c1, c2⟩, ⟨c3, c4, c5⟩, cb⟩ := hSw
      go_simp
    try simp only [Act.put, List.setIfInBounds_toArray, List.set_cons_zero, List.set_cons_succ]
    refine wpAnyH_take (i := 19) (oi := ⟨some _, _, _, _, _, _⟩) (v := undef) rfl (by kernel_rfl) (by kernel_rfl) (by kernel_rfl) (fun _ _ _ h => h) (Or.inr ⟨by rfl, rfl⟩) ht ?_
    try simp only [Act.put, List.setIfInBounds_toArray, List.set_cons_zero, List.set_cons_succ]
    refine wpAnyH_take (i := 20) (oi := ⟨some _, _, _, _, _, _⟩) (v := undef) rfl (by kernel_rfl) (by kernel_rfl) (by kernel_rfl) (fun _ _ _ h => h) (Or.inr ⟨by rfl, rfl⟩) ht ?_
    try simp only [Act.put, List.setIfInBounds_toArray, List.set_cons_zero, List.set_cons_succ]
    refine wpAnyH_take (i := 21) (oi := ⟨some _, _, _, _, _, _⟩) (v := undef) rfl (by kernel_rfl) (by kernel_rfl) (by kernel_rfl) (fun _ _ _ h => h) (Or.inr ⟨by rfl, rfl⟩) ht ?_
    try simp only [Act.put, List.setIfInBounds_toArray, List.set_cons_zero, List.set_cons_succ]
    refine wpAnyH_take (i := 22) (oi := ⟨some _, _, _, _, _, _⟩) (v := undef) rfl (by kernel_rfl) (by kernel_rfl) (by kernel_rfl) (fun _ _ _ h => h) (Or.inr ⟨by rfl, rfl⟩) ht ?_
    try simp only [Act.put, List.setIfInBounds_toArray, List.set_cons_zero, List.set_cons_succ]
    refine wpAnyH_take (i := 23) (oi := ⟨some _, _, _, _, _, _⟩) (v := undef) rfl (by kernel_rfl) (by kernel_rfl) (by kernel_rfl) (fun _ _ _ h => h) (Or.inr ⟨by rfl, rfl⟩) ht ?_
    try simp only [Act.put, List.setIfInBounds_toArray, List.set_cons_zero, List.set_cons_succ]
    refine wpAnyH_take (i := 24) (oi := ⟨some _, _, _, _, _, _⟩) (v := undef) rfl (by kernel_rfl) (by kernel_rfl) (by kernel_rfl) (fun _ _ _ h => h) (Or.inr ⟨by rfl, rfl⟩) ht ?_
    try simp only [Act.put, List.setIfInBounds_toArray, List.set_cons_zero, List.set_cons_succ]
    refine wpAnyH_take (i := 25) (oi := ⟨some _, _, _, _, _, _⟩) (v := undef) rfl (by kernel_rfl) (by kernel_rfl) (by kernel_rfl) (fun _ _ _ h => h) (Or.inr ⟨by rfl, rfl⟩) ht ?_
    try simp only [Act.put, List.setIfInBounds_toArray, List.set_cons_zero, List.set_cons_succ]
    refine wpAnyH_take (i := 26) (oi := ⟨some _, _, _, _, _, _⟩) (v := (.bool true)) rfl (by kernel_rfl) (by kernel_rfl) (by kernel_rfl) (fun _ _ _ h => h) (Or.inl ⟨by rfl, ?_⟩) ht ?_
    · intro W hSw
      obtain ⟨⟨c0, c1, c2⟩, ⟨c3, c4, c5⟩, cb⟩ := hSw
      go_simp
    try simp only [Act.put, List.setIfInBounds_toArray, List.set_cons_zero, List.set_cons_succ]
    refine wpAnyH_take (i := 27) (oi := ⟨some _, _, _, _, _, _⟩) (v := (.bool true)) rfl (by kernel_rfl) (by kernel_rfl) (by kernel_rfl) (fun _ _ _ h => h) (Or.inl ⟨by rfl, ?_⟩) ht ?_
    · intro W hSw
      obtain ⟨⟨c0, c1, c2⟩, ⟨c3, c4, c5⟩, cb⟩ := hSw
      go_simp
    try simp only [Act.put, List.setIfInBounds_toArray, List.set_cons_zero, List.set_cons_succ]
    refine wpAnyH_take (i := 28) (oi := ⟨some _, _, _, _, _, _⟩) (v := (.bool true)) rfl (by kernel_rfl) (by kernel_rfl) (by kernel_rfl) (fun _ _ _ h => h) (Or.inl ⟨by rfl, ?_⟩) ht ?_
    · intro W hSw
      obtain ⟨⟨c0, c1, c2⟩, ⟨c3, c4, c5⟩, cb⟩ := hSw
      go_simp
    try simp only [Act.put, List.setIfInBounds_toArray, List.set_cons_zero, List.set_cons_succ]
    refine wpAnyH_done (by kernel_rfl) ?_ _
    have hbl := ht.2.2
    clear ht
    go_wp2
    go_ret
    exact ⟨rfl, hbl⟩

end Go.Proofs.YtfconmjgedaifaaDoor
