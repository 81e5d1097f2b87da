/- Mo: Ta Tb Tc Td Te, in one text. -/
import Derived.Test.YtmdpjhcghdjmmaaMj
import Derived.Test.YtmdpjhcghdjmmaaMa
import Derived.Laws.Concat
import Derived.Deep.DeepFit
import Derived.IntWalk
import Derived.Deep.QuietTactic
import Derived.BigQuiet
/- The walks of the document's answers of layer 1, first part: run, zeros, Whole, itoa, ShowNum. -/
namespace Go.Proofs.Ytmdpjhcghdjmmaa
open Go.RowKit

set_option maxHeartbeats 400000 in
theorem run_any (s : ByteArray) (a : Int) (w : World) (hs : s.size ≤ 4000000000000000000) (h0 : 0 ≤ a) (h1 : a ≤ s.size) :
    Calls Try.prog 41 #[.string s, .int .i64 a] w fun e w' => e = .returned (.int .i64 (Nm.pre (s.data.toList.drop a.toNat)).length) ∧ w = w' := by
  obtain ⟨at', rfl⟩ := Int.eq_ofNat_of_zero_le h0
  rw [Int.toNat_natCast]
  have h1' : at' ≤ s.size := by omega
  clear h0 h1
  have hl : (s.data.toList.drop at').length = s.size - at' := by rw [List.length_drop, ← Lib.size_eq]
  have HL := Lib.hid hl
  clear hl
  go_enter Try.func41, Try.ntmps41
  go_wp2
  go_loop [5] (fun i => ∃ k : Nat, at' + k ≤ s.size ∧ i = .int .i64 k ∧ ∀ (j : Nat) b, j < k → (s.data.toList.drop at')[j]? = some b → Nm.dig b = true) (fun i => s.size - at' - (intOf i).toNat)
  case atStart => exact ⟨0, by omega, rfl, fun j b hj => absurd hj (Nat.not_lt_zero _)⟩
  case round =>
    obtain ⟨k, hk, rfl, hc⟩ := hrel
    have hK : Lib.Kept (∀ (j : Nat) b, j < k → (s.data.toList.drop at')[j]? = some b → Nm.dig b = true) := hc
    clear hc
    by_cases hlt : at' + k < s.size
    · have hg : Lib.Kept ((s.data.toList.drop at')[k]? = some s[at' + k]) := by
        rw [List.getElem?_drop, List.getElem?_eq_getElem (by rw [← Lib.size_eq]; exact hlt)]; rfl
      by_cases hd : Nm.dig s[at' + k] = true
      · have hd' := hd
        simp only [Nm.dig, Bool.and_eq_true, decide_eq_true_eq] at hd'
        obtain ⟨hd1, hd2⟩ := hd'
        have HD := Lib.hid hd
        clear hd
        go_wp2
        go_round
        case rel => exact ⟨k + 1, by omega, by go_num, fun j b hj hb => (by
          by_cases e : j = k
          · subst e; rw [hg] at hb; rw [← Option.some.inj hb]; exact HD.out
          · exact hK j b (by omega) hb)⟩
        case measure => simp [intOf]; omega
      · have hp := Nm.takeWhile_take Nm.dig (s.data.toList.drop at') k (by rw [HL.out]; omega) hK (fun b hb => by rw [hg] at hb; rw [← Option.some.inj hb]; simpa using hd)
        have HP := Lib.hid (show (Nm.pre (s.data.toList.drop at')).length = k by rw [Nm.pre, hp.1, List.length_take, HL.out]; omega)
        clear hp
        have hd' : s[at' + k].toNat < 48 ∨ 57 < s[at' + k].toNat := by
          simp only [Nm.dig, Bool.and_eq_true, decide_eq_true_eq] at hd; omega
        clear hd
        rcases hd' with hd' | hd'
        all_goals
          go_wp2
          go_ret
          refine ⟨?_, rfl⟩
          rw [HP.out]
          rfl
    · have hp := Nm.takeWhile_take Nm.dig (s.data.toList.drop at') k (by rw [HL.out]; omega) hK (fun b hb => by rw [List.getElem?_eq_none (by rw [HL.out]; omega)] at hb; cases hb)
      have HP := Lib.hid (show (Nm.pre (s.data.toList.drop at')).length = k by rw [Nm.pre, hp.1, List.length_take, HL.out]; omega)
      clear hp
      go_wp2
      go_ret
      refine ⟨?_, rfl⟩
      rw [HP.out]
      rfl

/-- A string and one byte more. -/
theorem snoc_mk (l : List UInt8) (c : UInt8) : (⟨l.toArray⟩ : ByteArray) ++ ⟨#[c]⟩ = ⟨(l ++ [c]).toArray⟩ := by
  rw [show (⟨#[c]⟩ : ByteArray) = ⟨[c].toArray⟩ from rfl, ByteArray.mk_append_mk]

/-- One byte that lies in a block, as a string. -/
theorem one_byte (W : World) (b : Nat) (k : Int) (h : W.cell? ⟨b, 0, none⟩ = some (.int .u8 k)) (h0 : 0 ≤ k) (h1 : k < 256) :
    (convert 67 9 (.slice (some ⟨b, 0, none⟩) 1 1)).run Try.prog W = .ok (.string ⟨[UInt8.ofNat k.toNat].toArray⟩) W := by
  refine run_convert_bytes_back W 67 9 5 ⟨b, 0, none⟩ 1 [UInt8.ofNat k.toNat] Try.underlying67 Try.underlying5 Try.underlying9 ?_
  intro j hj
  have hj0 : j = 0 := by simpa using hj
  subst hj0
  have e : (UInt8.ofNat k.toNat).toNat = k.toNat := by rw [UInt8.toNat_ofNat']; omega
  show W.cell? (Addr.add ⟨b, 0, none⟩ 0) = _
  rw [show Addr.add ⟨b, 0, none⟩ 0 = ⟨b, 0, none⟩ from rfl, h]
  simp only [List.getElem_cons_zero, e]
  rw [Int.toNat_of_nonneg h0]

theorem cat_mk (W : World) (a b : List UInt8) (h : a.length + b.length ≤ 9223372036854775807) : (Op.stringOp .add ⟨a.toArray⟩ ⟨b.toArray⟩).run Try.prog W = .ok (.string ⟨(a ++ b).toArray⟩) W := by
  rw [run_string_add_sum W _ _ (by rw [Lib.size_mk, Lib.size_mk]; omega), ByteArray.mk_append_mk]

theorem dec_len (n : Nat) (h : n ≤ 1000000000000) : (Lib.decDigits n).length ≤ 21 := by
  have := Lib.itoa_length_le n (by omega) (by omega)
  rw [Nm.itoa_nat _ (by omega)] at this
  simpa using this

end Go.Proofs.Ytmdpjhcghdjmmaa

/- The walks of the document's answers of layer 1, second part: itoa. -/
namespace Go.Proofs.Ytmdpjhcghdjmmaa
open Go.RowKit

theorem below_call0 (w : World) {w2 : World} (h : Below w.drew.heap.size w.drew w2) : Below w.heap.size w w2 := (Below.refl _ w).drew.trans h
theorem below_call1 (w : World) (o : Obj) {w2 : World} (h : Below (w.alloc o).drew.heap.size (w.alloc o).drew w2) : Below w.heap.size w w2 := ((Below.refl _ w).alloc (Nat.le_refl _) o).drew.trans (h.mono (by simp))

set_option maxRecDepth 10000 in
set_option maxHeartbeats 400000 in
/-- A number's digits, by the definition. -/
theorem itoa_pos (m : Nat) : ∀ (k : Int) (w : World), k.toNat = m → 0 ≤ k → k ≤ 1000000000000 →
    Calls Try.prog 31 #[.int .i64 k] w fun e w' => e = .returned (.string ⟨(Lib.decDigits k.toNat).toArray⟩) ∧ Below w.heap.size w w' := by
  induction m using Nat.strongRecOn with
  | ind m ih =>
    intro k w hm h0 h1
    have IH := Lib.hid ih
    have HM := Lib.hid hm
    clear ih hm
    by_cases h10 : k < 10
    · have HE := Lib.hid (Lib.decDigits_one (i := k.toNat) (by omega))
      have hcv := one_byte (w.alloc (.cells #[.int .u8 (48 + k)] 5)) w.heap.size (48 + k) (by simp) (by omega) (by omega)
      generalize hc : [UInt8.ofNat (48 + k).toNat] = l at hcv
      have HC := Lib.hid hc
      clear hc
      go_enter Try.func31, Try.ntmps31
      go_wp2_with fail
      go_ret
      refine ⟨?_, (Below.refl _ _).alloc (Nat.le_refl _) _⟩
      show Ending.returned (Value.string ⟨l.toArray⟩) = _
      rw [HE.out, ← HC.out, show (48 + k).toNat = 48 + k.toNat from by omega]
    · have HE := Lib.hid (show Lib.decDigits k.toNat = Lib.decDigits (k / 10).toNat ++ [UInt8.ofNat (48 + k % 10).toNat] by
        rw [Lib.decDigits, dif_neg (by omega), show (k / 10).toNat = k.toNat / 10 from by omega, show (48 + k % 10).toNat = 48 + k.toNat % 10 from by omega])
      have hcv : ∀ W : World, W.cell? ⟨w.heap.size, 0, none⟩ = some (.int .u8 (48 + k % 10)) → (convert 67 9 (.slice (some ⟨w.heap.size, 0, none⟩) 1 1)).run Try.prog W = .ok (.string ⟨[UInt8.ofNat (48 + k % 10).toNat].toArray⟩) W := fun W h => one_byte W _ _ h (by omega) (by omega)
      have hcw : ∀ W : World, (convert 67 9 (.slice (some ⟨W.heap.size, 0, none⟩) 1 1)).run Try.prog (W.alloc (.cells #[.int .u8 (48 + k % 10)] 5)) = .ok (.string ⟨[UInt8.ofNat (48 + k % 10).toNat].toArray⟩) (W.alloc (.cells #[.int .u8 (48 + k % 10)] 5)) := fun W => one_byte _ _ _ (by simp) (by omega) (by omega)
      have hadd := fun W => cat_mk W (Lib.decDigits (k / 10).toNat) [UInt8.ofNat (48 + k % 10).toNat] (by have := dec_len (k / 10).toNat (by omega); simp; omega)
      generalize hc : [UInt8.ofNat (48 + k % 10).toNat] = l at hcv hcw hadd HE
      generalize hd : Lib.decDigits (k / 10).toNat = d at hadd HE
      have HD := Lib.hid hd
      clear hc hd
      have hq0 : 0 ≤ k / 10 := by omega
      have hq1 : k / 10 ≤ 1000000000000 := by omega
      have hr0 : 0 ≤ k % 10 := by omega
      have hr1 : k % 10 < 10 := by omega
      have hwq : k.tdiv 10 = k / 10 := Int.tdiv_eq_ediv_of_nonneg h0
      have hwr : k.tmod 10 = k % 10 := Int.tmod_eq_emod_of_nonneg h0
      have hw1 : IntKind.i64.wrap (k / 10) = k / 10 := IntWalk.i64_in _ (by omega)
      have hw2 : IntKind.i64.wrap (k % 10) = k % 10 := IntWalk.i64_in _ (by omega)
      have hw3 : IntKind.i64.wrap (48 + k % 10) = 48 + k % 10 := IntWalk.i64_in _ (by omega)
      have hw4 : IntKind.u8.wrap (48 + k % 10) = 48 + k % 10 := IntWalk.u8_in _ (by omega)
      go_enter Try.func31, Try.ntmps31
      go_wp2_with fail
      go_region_with (first | (go_at_call 31; refine (IH.out (k / 10).toNat (by have := HM.out; omega) (k / 10) _ rfl hq0 hq1).mono ?_; rw [HD.out]; rintro e w2 ⟨rfl, hb2⟩; have ht : Below w.heap.size w w2 := (by with_reducible first | exact below_call0 w hb2 | exact below_call1 w _ hb2); obtain ⟨hc2, hf2⟩ := bcell hb2))
      all_goals
        go_wp2_with fail
        go_ret
        refine ⟨?_, ?_⟩
        · show Ending.returned (Value.string ⟨(d ++ l).toArray⟩) = _
          rw [HE.out]
        · with_reducible first | exact ht | exact ht.alloc ht.size _

set_option maxHeartbeats 400000 in
theorem itoa_any (x : Int) (w : World) (h0 : -1000000 ≤ x) (h1 : x ≤ 1000000000000) :
    Calls Try.prog 31 #[.int .i64 x] w fun e w' => e = .returned (.string ⟨(Lib.itoa x).toArray⟩) ∧ Below w.heap.size w w' := by
  by_cases h : 0 ≤ x
  · rw [Nm.itoa_nat x h]
    exact itoa_pos _ x w rfl h h1
  · have hlt : x < 0 := by omega
    have hn0 : 0 ≤ -x := by omega
    have hn1 : -x ≤ 1000000000000 := by omega
    have HE := Lib.hid (show Lib.itoa x = [45] ++ Lib.decDigits (-x).toNat by
      unfold Lib.itoa; rw [if_pos hlt, show x.natAbs = (-x).toNat from by omega]; rfl)
    have hadd := fun W => cat_mk W [45] (Lib.decDigits (-x).toNat) (by have := dec_len (-x).toNat (by omega); simp; omega)
    generalize hd : Lib.decDigits (-x).toNat = d at hadd HE
    have HD := Lib.hid hd
    clear hd
    go_enter Try.func31, Try.ntmps31
    go_wp2_with fail
    refine (itoa_pos _ (-x) _ rfl hn0 hn1).mono ?_
    rw [HD.out]
    rintro e w2 ⟨rfl, hb2⟩
    go_wp2_with fail
    go_ret
    refine ⟨?_, hb2⟩
    rw [HE.out]
    rfl

set_option maxHeartbeats 400000 in
theorem refShow_any (neg : Bool) (ds : List UInt8) (x : Int) (w : World) (hn : Nm.Fair ⟨neg, ds, x⟩) :
    Calls Try.prog 29 #[.agg #[.bool neg, .string ⟨ds.toArray⟩, .int .i64 x]] w fun e w' => e = .returned (.string ⟨(Nm.text ⟨neg, ds, x⟩).toArray⟩) ∧ Below w.heap.size w w' := by
  obtain ⟨hn1, hn2, hn3⟩ := hn
  simp only at hn1 hn2 hn3
  rcases ds with _ | ⟨c, r⟩
  · go_enter Try.func29, Try.ntmps29
    go_wp2_with fail
    go_ret
    exact ⟨rfl, (Below.refl _ _).alloc (Nat.le_refl _) _⟩
  · have hi := Lib.itoa_length_le x (by omega) (by omega)
    have ha1 := fun W => cat_mk W [45] (c :: r) (by simp at hn1 ⊢; omega)
    have ha2 := fun W (p : List UInt8) (h : p.length ≤ 1000001) => cat_mk W p [101] (by simp; omega)
    have ha3 := fun W (p : List UInt8) (h : p.length ≤ 1000002) => cat_mk W p (Lib.itoa x) (by omega)
    have HI := Lib.hid ha2
    have HJ := Lib.hid ha3
    clear ha2 ha3
    by_cases hx : x = 0
    · subst hx
      cases neg
      · go_enter Try.func29, Try.ntmps29
        go_wp2_with fail
        go_ret
        exact ⟨by simp [Nm.text], (Below.refl _ _).alloc (Nat.le_refl _) _⟩
      · go_enter Try.func29, Try.ntmps29
        go_wp2_with fail
        go_ret
        exact ⟨by simp [Nm.text], (Below.refl _ _).alloc (Nat.le_refl _) _⟩
    · have e1 : (x == 0) = false := by simpa using hx
      have e2 : (x != 0) = true := by simpa using hx
      have HX := Lib.hid hx
      clear hx
      cases neg
      · have hb2 := fun W => HI.out W (c :: r) (by omega)
        have hb3 := fun W => HJ.out W (c :: (r ++ [101])) (by simp at hn1 ⊢; omega)
        generalize hd : Lib.itoa x = d at hb3 hi
        have HD := Lib.hid hd
        clear hd HI HJ
        go_enter Try.func29, Try.ntmps29
        go_wp2_with fail
        refine (itoa_any x _ (by omega) (by omega)).mono ?_
        rw [HD.out]
        rintro e w2 ⟨rfl, hbw⟩
        go_wp2_with fail
        go_ret
        refine ⟨?_, ((Below.refl _ _).alloc (Nat.le_refl _) _).trans (hbw.mono (by simp))⟩
        rw [← HD.out]
        simp [Nm.text, HX.out]
      · have hb2 := fun W => HI.out W (45 :: c :: r) (by simp at hn1 ⊢; omega)
        have hb3 := fun W => HJ.out W (45 :: c :: (r ++ [101])) (by simp at hn1 ⊢; omega)
        generalize hd : Lib.itoa x = d at hb3 hi
        have HD := Lib.hid hd
        clear hd HI HJ
        go_enter Try.func29, Try.ntmps29
        go_wp2_with fail
        refine (itoa_any x _ (by omega) (by omega)).mono ?_
        rw [HD.out]
        rintro e w2 ⟨rfl, hbw⟩
        go_wp2_with fail
        go_ret
        refine ⟨?_, ((Below.refl _ _).alloc (Nat.le_refl _) _).trans (hbw.mono (by simp))⟩
        rw [← HD.out]
        simp [Nm.text, HX.out]

end Go.Proofs.Ytmdpjhcghdjmmaa

/- The walks of the document's answers of layer 1, third part: Less, Cmp. -/
namespace Go.Proofs.Ytmdpjhcghdjmmaa
open Go.RowKit

theorem TwoAt.start0 (w : World) (na : Bool) (da : List UInt8) (xa : Int) (nb : Bool) (db : List UInt8) (xb : Int) (t : TypeId) :
    TwoAt w na da xa nb db xb ((w.alloc (.cells #[.bool na, .string ⟨da.toArray⟩, .int .i64 xa] t)).alloc (.cells #[.bool nb, .string ⟨db.toArray⟩, .int .i64 xb] t)) := by
  refine ⟨⟨?_, ?_, ?_⟩, ⟨?_, ?_, ?_⟩, below_two0 _ _ _, by simp⟩ <;> simp

theorem TwoAt.drew {w : World} {na : Bool} {da : List UInt8} {xa : Int} {nb : Bool} {db : List UInt8} {xb : Int} {W : World} (h : TwoAt w na da xa nb db xb W) : TwoAt w na da xa nb db xb W.drew := h.keep (Below.refl _ W).drew

end Go.Proofs.Ytmdpjhcghdjmmaa

/- The walks of the document's answers of layer 1, fourth part: MayNum. -/
namespace Go.Proofs.Ytmdpjhcghdjmmaa
open Go.RowKit

theorem byte_bne {c k : UInt8} (h : ¬ c = k) : ((c.toNat : Int) != (k.toNat : Int)) = true := by rw [bne, Nm.byte_ne h]; rfl

/-- What MayNum asks beside the digits. -/
def mayB (n : Nat) (x : Int) : Bool := !(decide (60 < n) || decide (x < -1000) || decide (1000 < x))

set_option maxHeartbeats 1000000 in
theorem mayNum_any (neg : Bool) (ds : List UInt8) (x : Int) (w : World) (hne : ds ≠ []) (hd : ∀ c ∈ ds, Nm.dig c = true) (hh : ds.head? ≠ some 48) (hl : ds.getLast? ≠ some 48) (hlen : ds.length ≤ 1000000) :
    Calls Try.prog 59 #[.agg #[.bool neg, .string ⟨ds.toArray⟩, .int .i64 x]] w fun e w' => e = .returned (.bool (mayB ds.length x)) ∧ Below w.heap.size w w' := by
  have hrun := (Nm.pre_all ds [] hd (fun c h => by cases h)).1
  rw [List.append_nil] at hrun
  have HR := Lib.hid hrun
  have HD := Lib.hid hd
  have HH := Lib.hid hh
  have HL := Lib.hid hl
  clear hrun hd hh hl
  rcases ds with _ | ⟨c, r⟩
  · exact absurd rfl hne
  · clear hne
    have hc : ∀ W : World, Calls Try.prog 41 #[.string ⟨(c :: r).toArray⟩, .int .i64 0] W fun e w' => e = .returned (.int .i64 (r.length + 1)) ∧ w' = W := fun W => by
      refine (run_any ⟨(c :: r).toArray⟩ 0 W (by rw [Lib.size_mk]; omega) (by omega) (by omega)).mono ?_
      rintro e w' ⟨rfl, rfl⟩
      refine ⟨?_, rfl⟩
      rw [show (⟨(c :: r).toArray⟩ : ByteArray).data.toList.drop (0 : Int).toNat = c :: r from rfl, HR.out]
      simp
    have HCC := Lib.hid hc
    clear hc
    have hcv : (c :: r).getLast (by simp) ≠ 48 := fun e => HL.out (by rw [List.getLast?_eq_some_getLast (by simp), e])
    have hc48 : c ≠ 48 := fun e => HH.out (by rw [e]; rfl)
    have hix : ∀ h, (⟨(c :: r).toArray⟩ : ByteArray)[0]'h = c := fun _ => rfl
    have hixl : ∀ h, (⟨(c :: r).toArray⟩ : ByteArray)[r.length]'h = (c :: r).getLast (by simp) := fun h => by
      rw [List.getLast_eq_getElem]
      rfl
    have n1 : ((c.toNat : Int) != 48) = true := byte_bne (k := 48) hc48
    have n2 : (((c :: r).getLast (by simp)).toNat != (48 : Int)) = true := byte_bne (k := 48) hcv
    generalize (c :: r).getLast (by simp) = lc at hixl n2 hcv
    clear hcv hc48 HH HL HD
    by_cases h1 : 60 < r.length + 1
    · have e1 : decide (60 < (r.length : Int) + 1) = true := by simp; omega
      have HB := Lib.hid (show mayB (r.length + 1) x = false by unfold mayB; simp; omega)
      go_enter Try.func59, Try.ntmps59
      go_wp2_with fail
      go_quiet ((go_at_call 41; exact Calls.quiet_of_same (HCC.out _)))
      go_wp2_with fail
      go_ret
      refine ⟨?_, below_drewN ((Below.refl _ _).alloc (Nat.le_refl _) _) _⟩
      rw [HB.out]
      rfl
    · have e1 : decide (60 < (r.length : Int) + 1) = false := by simp; omega
      by_cases h2 : x < -1000
      · have e2 : decide (x < -1000) = true := by simpa using h2
        have HB := Lib.hid (show mayB (r.length + 1) x = false by unfold mayB; simp; omega)
        go_enter Try.func59, Try.ntmps59
        go_wp2_with fail
        go_quiet ((go_at_call 41; exact Calls.quiet_of_same (HCC.out _)))
        go_wp2_with fail
        go_ret
        refine ⟨?_, below_drewN ((Below.refl _ _).alloc (Nat.le_refl _) _) _⟩
        rw [HB.out]
        rfl
      · have e2 : decide (x < -1000) = false := by simpa using h2
        by_cases h3 : 1000 < x
        · have e3 : decide (1000 < x) = true := by simpa using h3
          have HB := Lib.hid (show mayB (r.length + 1) x = false by unfold mayB; simp; omega)
          go_enter Try.func59, Try.ntmps59
          go_wp2_with fail
          go_quiet ((go_at_call 41; exact Calls.quiet_of_same (HCC.out _)))
          go_wp2_with fail
          go_ret
          refine ⟨?_, below_drewN ((Below.refl _ _).alloc (Nat.le_refl _) _) _⟩
          rw [HB.out]
          rfl
        · have e3 : decide (1000 < x) = false := by simpa using h3
          have HB := Lib.hid (show mayB (r.length + 1) x = true by unfold mayB; simp; omega)
          go_enter Try.func59, Try.ntmps59
          go_wp2_with fail
          go_quiet ((go_at_call 41; exact Calls.quiet_of_same (HCC.out _)))
          go_wp2_with fail
          go_ret
          refine ⟨?_, below_drewN ((Below.refl _ _).alloc (Nat.le_refl _) _) _⟩
          rw [HB.out]
          rfl

end Go.Proofs.Ytmdpjhcghdjmmaa

/- The walks of the document's answers of layer 1, fifth part: End. -/
namespace Go.Proofs.Ytmdpjhcghdjmmaa
open Go.RowKit

/-- A place in a text, and what stands from it on. -/
def From (s : ByteArray) (a : Int) (t : List UInt8) : Prop := 0 ≤ a ∧ a ≤ s.size ∧ s.data.toList.drop a.toNat = t

theorem From.some {s : ByteArray} {a : Int} {c : UInt8} {r : List UInt8} (h : From s a (c :: r)) : a < s.size ∧ (∀ h, s[a.toNat]'h = c) ∧ From s (a + 1) r := by
  obtain ⟨h0, h1, h2⟩ := h
  have hlt : a.toNat < s.data.toList.length := by
    rcases Nat.lt_or_ge a.toNat s.data.toList.length with h | h
    · exact h
    · rw [List.drop_eq_nil_of_le h] at h2; cases h2
  have he := List.drop_eq_getElem_cons hlt
  rw [h2] at he
  have hlt' : a.toNat < s.size := by rw [Lib.size_eq]; exact hlt
  refine ⟨by omega, fun h => ?_, by omega, by omega, ?_⟩
  · exact (List.cons.inj he).1.symm
  · rw [show (a + 1).toNat = a.toNat + 1 from by omega]; exact (List.cons.inj he).2.symm
theorem From.none {s : ByteArray} {a : Int} (h : From s a []) : ¬ a < s.size := by
  obtain ⟨h0, h1, h2⟩ := h
  have := congrArg List.length h2
  rw [List.length_drop, ← Lib.size_eq] at this
  simp at this
  omega
theorem From.more {s : ByteArray} {a : Int} {t : List UInt8} (h : From s a t) (n : Nat) (hn : n ≤ t.length) : From s (a + n) (t.drop n) := by
  obtain ⟨h0, h1, h2⟩ := h
  have := congrArg List.length h2
  rw [List.length_drop, ← Lib.size_eq] at this
  refine ⟨by omega, by omega, ?_⟩
  rw [show (a + n).toNat = a.toNat + n from by omega, ← List.drop_drop, h2]
theorem From.digits {s : ByteArray} {a : Int} {t : List UInt8} (h : From s a t) : From s (a + ((Nm.pre t).length : Nat)) (Nm.suf t) := by
  have := h.more (Nm.pre t).length (Nm.pre_len t)
  have e : t.drop (Nm.pre t).length = Nm.suf t := by
    have h2 := Nm.pre_suf t
    have h3 : (Nm.pre t ++ Nm.suf t).drop (Nm.pre t).length = Nm.suf t := List.drop_left
    rw [h2] at h3
    exact h3
  rw [e] at this
  exact this
theorem From.at_eq {s : ByteArray} {a : Int} {t : List UInt8} (h : From s a t) : a = (s.size : Int) - t.length := by
  obtain ⟨h0, h1, h2⟩ := h
  have := congrArg List.length h2
  rw [List.length_drop, ← Lib.size_eq] at this
  omega

theorem run_from {s : ByteArray} {a : Int} {t : List UInt8} (h : From s a t) (hs : s.size ≤ 4000000000000000000) (w : World) :
    Calls Try.prog 41 #[.string s, .int .i64 a] w fun e w' => e = .returned (.int .i64 (Nm.pre t).length) ∧ w = w' := by
  have := run_any s a w hs h.1 h.2.1
  rw [h.2.2] at this
  exact this

end Go.Proofs.Ytmdpjhcghdjmmaa


