/- The walks of the document's answers of layer 1, second part: itoa. -/
import Derived.Test.YtbcoakonjgakbaaDoorTa
import Derived.Deep.DeepFit
import Derived.IntWalk
namespace Go.Proofs.YtbcoakonjgakbaaDoor
open Go.RowKit

theorem below_call0 (w : World) {w2 : World} (h : Below w.drew.heap.size w.drew w2) : Below w.heap.size w w2 := (Below.refl _ w).drew.trans h
theorem below_call1 (w : World) (o : Obj) {w2 : World} (h : Below (w.alloc o).drew.heap.size (w.alloc o).drew w2) : Below w.heap.size w w2 := ((Below.refl _ w).alloc (Nat.le_refl _) o).drew.trans (h.mono (by simp))

set_option maxRecDepth 10000 in
set_option maxHeartbeats 400000 in
/-- A number's digits, by the definition. -/
theorem itoa_pos (m : Nat) : ∀ (k : Int) (w : World), k.toNat = m → 0 ≤ k → k ≤ 1000000000000 →
    Calls Tryd.prog 33 #[.int .i64 k] w fun e w' => e = .returned (.string ⟨(Lib.decDigits k.toNat).toArray⟩) ∧ Below w.heap.size w w' := by
  induction m using Nat.strongRecOn with
  | ind m ih =>
    intro k w hm h0 h1
    have IH := Lib.hid ih
    have HM := Lib.hid hm
    clear ih hm
    by_cases h10 : k < 10
    · have HE := Lib.hid (Lib.decDigits_one (i := k.toNat) (by omega))
      have hcv := one_byte (w.alloc (.cells #[.int .u8 (48 + k)] 5)) w.heap.size (48 + k) (by simp) (by omega) (by omega)
      generalize hc : [UInt8.ofNat (48 + k).toNat] = l at hcv
      have HC := Lib.hid hc
      clear hc
      go_enter Tryd.func33, Tryd.ntmps33
      go_wp2_with fail
      go_ret
      refine ⟨?_, (Below.refl _ _).alloc (Nat.le_refl _) _⟩
      show Ending.returned (Value.string ⟨l.toArray⟩) = _
      rw [HE.out, ← HC.out, show (48 + k).toNat = 48 + k.toNat from by omega]
    · have HE := Lib.hid (show Lib.decDigits k.toNat = Lib.decDigits (k / 10).toNat ++ [UInt8.ofNat (48 + k % 10).toNat] by
        rw [Lib.decDigits, dif_neg (by omega), show (k / 10).toNat = k.toNat / 10 from by omega, show (48 + k % 10).toNat = 48 + k.toNat % 10 from by omega])
      have hcv : ∀ W : World, W.cell? ⟨w.heap.size, 0, none⟩ = some (.int .u8 (48 + k % 10)) → (convert 59 9 (.slice (some ⟨w.heap.size, 0, none⟩) 1 1)).run Tryd.prog W = .ok (.string ⟨[UInt8.ofNat (48 + k % 10).toNat].toArray⟩) W := fun W h => one_byte W _ _ h (by omega) (by omega)
      have hcw : ∀ W : World, (convert 59 9 (.slice (some ⟨W.heap.size, 0, none⟩) 1 1)).run Tryd.prog (W.alloc (.cells #[.int .u8 (48 + k % 10)] 5)) = .ok (.string ⟨[UInt8.ofNat (48 + k % 10).toNat].toArray⟩) (W.alloc (.cells #[.int .u8 (48 + k % 10)] 5)) := fun W => one_byte _ _ _ (by simp) (by omega) (by omega)
      have hadd := fun W => cat_mk W (Lib.decDigits (k / 10).toNat) [UInt8.ofNat (48 + k % 10).toNat] (by have := dec_len (k / 10).toNat (by omega); simp; omega)
      generalize hc : [UInt8.ofNat (48 + k % 10).toNat] = l at hcv hcw hadd HE
      generalize hd : Lib.decDigits (k / 10).toNat = d at hadd HE
      have HD := Lib.hid hd
      clear hc hd
      have hq0 : 0 ≤ k / 10 := by omega
      have hq1 : k / 10 ≤ 1000000000000 := by omega
      have hr0 : 0 ≤ k % 10 := by omega
      have hr1 : k % 10 < 10 := by omega
      have hwq : k.tdiv 10 = k / 10 := Int.tdiv_eq_ediv_of_nonneg h0
      have hwr : k.tmod 10 = k % 10 := Int.tmod_eq_emod_of_nonneg h0
      have hw1 : IntKind.i64.wrap (k / 10) = k / 10 := IntWalk.i64_in _ (by omega)
      have hw2 : IntKind.i64.wrap (k % 10) = k % 10 := IntWalk.i64_in _ (by omega)
      have hw3 : IntKind.i64.wrap (48 + k % 10) = 48 + k % 10 := IntWalk.i64_in _ (by omega)
      have hw4 : IntKind.u8.wrap (48 + k % 10) = 48 + k % 10 := IntWalk.u8_in _ (by omega)
      go_enter Tryd.func33, Tryd.ntmps33
      go_wp2_with fail
      go_region_with (first | (go_at_call 33; refine (IH.out (k / 10).toNat (by have := HM.out; omega) (k / 10) _ rfl hq0 hq1).mono ?_; rw [HD.out]; rintro e w2 ⟨rfl, hb2⟩; have ht : Below w.heap.size w w2 := (by with_reducible first | exact below_call0 w hb2 | exact below_call1 w _ hb2); obtain ⟨hc2, hf2⟩ := bcell hb2))
      all_goals
        go_wp2_with fail
        go_ret
        refine ⟨?_, ?_⟩
        · show Ending.returned (Value.string ⟨(d ++ l).toArray⟩) = _
          rw [HE.out]
        · with_reducible first | exact ht | exact ht.alloc ht.size _

set_option maxHeartbeats 400000 in
theorem itoa_any (x : Int) (w : World) (h0 : -1000000 ≤ x) (h1 : x ≤ 1000000000000) :
    Calls Tryd.prog 33 #[.int .i64 x] w fun e w' => e = .returned (.string ⟨(Lib.itoa x).toArray⟩) ∧ Below w.heap.size w w' := by
  by_cases h : 0 ≤ x
  · rw [Nm.itoa_nat x h]
    exact itoa_pos _ x w rfl h h1
  · have hlt : x < 0 := by omega
    have hn0 : 0 ≤ -x := by omega
    have hn1 : -x ≤ 1000000000000 := by omega
    have HE := Lib.hid (show Lib.itoa x = [45] ++ Lib.decDigits (-x).toNat by
      unfold Lib.itoa; rw [if_pos hlt, show x.natAbs = (-x).toNat from by omega]; rfl)
    have hadd := fun W => cat_mk W [45] (Lib.decDigits (-x).toNat) (by have := dec_len (-x).toNat (by omega); simp; omega)
    generalize hd : Lib.decDigits (-x).toNat = d at hadd HE
    have HD := Lib.hid hd
    clear hd
    go_enter Tryd.func33, Tryd.ntmps33
    go_wp2_with fail
    refine (itoa_pos _ (-x) _ rfl hn0 hn1).mono ?_
    rw [HD.out]
    rintro e w2 ⟨rfl, hb2⟩
    go_wp2_with fail
    go_ret
    refine ⟨?_, hb2⟩
    rw [HE.out]
    rfl

set_option maxHeartbeats 400000 in
theorem refShow_any (neg : Bool) (ds : List UInt8) (x : Int) (w : World) (hn : Nm.Fair ⟨neg, ds, x⟩) :
    Calls Tryd.prog 14 #[.agg #[.bool neg, .string ⟨ds.toArray⟩, .int .i64 x]] w fun e w' => e = .returned (.string ⟨(Nm.text ⟨neg, ds, x⟩).toArray⟩) ∧ Below w.heap.size w w' := by
  obtain ⟨hn1, hn2, hn3⟩ := hn
  simp only at hn1 hn2 hn3
  rcases ds with _ | ⟨c, r⟩
  · go_enter Tryd.func14, Tryd.ntmps14
    go_wp2_with fail
    go_ret
    exact ⟨rfl, (Below.refl _ _).alloc (Nat.le_refl _) _⟩
  · have hi := Lib.itoa_length_le x (by omega) (by omega)
    have ha1 := fun W => cat_mk W [45] (c :: r) (by simp at hn1 ⊢; omega)
    have ha2 := fun W (p : List UInt8) (h : p.length ≤ 1000001) => cat_mk W p [101] (by simp; omega)
    have ha3 := fun W (p : List UInt8) (h : p.length ≤ 1000002) => cat_mk W p (Lib.itoa x) (by omega)
    have HI := Lib.hid ha2
    have HJ := Lib.hid ha3
    clear ha2 ha3
    by_cases hx : x = 0
    · subst hx
      cases neg
      · go_enter Tryd.func14, Tryd.ntmps14
        go_wp2_with fail
        go_ret
        exact ⟨by simp [Nm.text], (Below.refl _ _).alloc (Nat.le_refl _) _⟩
      · go_enter Tryd.func14, Tryd.ntmps14
        go_wp2_with fail
        go_ret
        exact ⟨by simp [Nm.text], (Below.refl _ _).alloc (Nat.le_refl _) _⟩
    · have e1 : (x == 0) = false := by simpa using hx
      have e2 : (x != 0) = true := by simpa using hx
      have HX := Lib.hid hx
      clear hx
      cases neg
      · have hb2 := fun W => HI.out W (c :: r) (by omega)
        have hb3 := fun W => HJ.out W (c :: (r ++ [101])) (by simp at hn1 ⊢; omega)
        generalize hd : Lib.itoa x = d at hb3 hi
        have HD := Lib.hid hd
        clear hd HI HJ
        go_enter Tryd.func14, Tryd.ntmps14
        go_wp2_with fail
        refine (itoa_any x _ (by omega) (by omega)).mono ?_
        rw [HD.out]
        rintro e w2 ⟨rfl, hbw⟩
        go_wp2_with fail
        go_ret
        refine ⟨?_, ((Below.refl _ _).alloc (Nat.le_refl _) _).trans (hbw.mono (by simp))⟩
        rw [← HD.out]
        simp [Nm.text, HX.out]
      · have hb2 := fun W => HI.out W (45 :: c :: r) (by simp at hn1 ⊢; omega)
        have hb3 := fun W => HJ.out W (45 :: c :: (r ++ [101])) (by simp at hn1 ⊢; omega)
        generalize hd : Lib.itoa x = d at hb3 hi
        have HD := Lib.hid hd
        clear hd HI HJ
        go_enter Tryd.func14, Tryd.ntmps14
        go_wp2_with fail
        refine (itoa_any x _ (by omega) (by omega)).mono ?_
        rw [HD.out]
        rintro e w2 ⟨rfl, hbw⟩
        go_wp2_with fail
        go_ret
        refine ⟨?_, ((Below.refl _ _).alloc (Nat.le_refl _) _).trans (hbw.mono (by simp))⟩
        rw [← HD.out]
        simp [Nm.text, HX.out]

end Go.Proofs.YtbcoakonjgakbaaDoor
