/- Mo: Ta Tb Tc Td Te, in one text. -/
import Derived.Test.YtjdkfkjkmjodlaaDoorMj
import Derived.Test.YtjdkfkjkmjodlaaDoorMa
import Derived.Laws.Concat
import Derived.Deep.DeepFit
import Derived.IntWalk
import Derived.Deep.QuietTactic
import Derived.BigQuiet
/- The walks of the document's answers of layer 1, first part: run, zeros, Whole, itoa, ShowNum. -/
namespace Go.Proofs.YtjdkfkjkmjodlaaDoor
open Go.RowKit

set_option maxHeartbeats 400000 in
theorem run_any (s : ByteArray) (a : Int) (w : World) (hs : s.size ≤ 4000000000000000000) (h0 : 0 ≤ a) (h1 : a ≤ s.size) :
    Calls Tryd.prog 23 #[.string s, .int .i64 a] w fun e w' => e = .returned (.int .i64 (Nm.pre (s.data.toList.drop a.toNat)).length) ∧ w = w' := by
  obtain ⟨at', rfl⟩ := Int.eq_ofNat_of_zero_le h0
  rw [Int.toNat_natCast]
  have h1' : at' ≤ s.size := by omega
  clear h0 h1
  have hl : (s.data.toList.drop at').length = s.size - at' := by rw [List.length_drop, ← Lib.size_eq]
  have HL := Lib.hid hl
  clear hl
  go_enter Tryd.func23, Tryd.ntmps23
  go_wp2
  go_loop [5] (fun i => ∃ k : Nat, at' + k ≤ s.size ∧ i = .int .i64 k ∧ ∀ (j : Nat) b, j < k → (s.data.toList.drop at')[j]? = some b → Nm.dig b = true) (fun i => s.size - at' - (intOf i).toNat)
  case atStart => exact ⟨0, by omega, rfl, fun j b hj => absurd hj (Nat.not_lt_zero _)⟩
  case round =>
    obtain ⟨k, hk, rfl, hc⟩ := hrel
    have hK : Lib.Kept (∀ (j : Nat) b, j < k → (s.data.toList.drop at')[j]? = some b → Nm.dig b = true) := hc
    clear hc
    by_cases hlt : at' + k < s.size
    · have hg : Lib.Kept ((s.data.toList.drop at')[k]? = some s[at' + k]) := by
        rw [List.getElem?_drop, List.getElem?_eq_getElem (by rw [← Lib.size_eq]; exact hlt)]; rfl
      by_cases hd : Nm.dig s[at' + k] = true
      · have hd' := hd
        simp only [Nm.dig, Bool.and_eq_true, decide_eq_true_eq] at hd'
        obtain ⟨hd1, hd2⟩ := hd'
        have HD := Lib.hid hd
        clear hd
        go_wp2
        go_round
        case rel => exact ⟨k + 1, by omega, by go_num, fun j b hj hb => (by
          by_cases e : j = k
          · subst e; rw [hg] at hb; rw [← Option.some.inj hb]; exact HD.out
          · exact hK j b (by omega) hb)⟩
        case measure => simp [intOf]; omega
      · have hp := Nm.takeWhile_take Nm.dig (s.data.toList.drop at') k (by rw [HL.out]; omega) hK (fun b hb => by rw [hg] at hb; rw [← Option.some.inj hb]; simpa using hd)
        have HP := Lib.hid (show (Nm.pre (s.data.toList.drop at')).length = k by rw [Nm.pre, hp.1, List.length_take, HL.out]; omega)
        clear hp
        have hd' : s[at' + k].toNat < 48 ∨ 57 < s[at' + k].toNat := by
          simp only [Nm.dig, Bool.and_eq_true, decide_eq_true_eq] at hd; omega
        clear hd
        rcases hd' with hd' | hd'
        all_goals
          go_wp2
          go_ret
          refine ⟨?_, rfl⟩
          rw [HP.out]
          rfl
    · have hp := Nm.takeWhile_take Nm.dig (s.data.toList.drop at') k (by rw [HL.out]; omega) hK (fun b hb => by rw [List.getElem?_eq_none (by rw [HL.out]; omega)] at hb; cases hb)
      have HP := Lib.hid (show (Nm.pre (s.data.toList.drop at')).length = k by rw [Nm.pre, hp.1, List.length_take, HL.out]; omega)
      clear hp
      go_wp2
      go_ret
      refine ⟨?_, rfl⟩
      rw [HP.out]
      rfl

/-- A string and one byte more. -/
theorem snoc_mk (l : List UInt8) (c : UInt8) : (⟨l.toArray⟩ : ByteArray) ++ ⟨#[c]⟩ = ⟨(l ++ [c]).toArray⟩ := by
  rw [show (⟨#[c]⟩ : ByteArray) = ⟨[c].toArray⟩ from rfl, ByteArray.mk_append_mk]

/-- One byte that lies in a block, as a string. -/
theorem one_byte (W : World) (b : Nat) (k : Int) (h : W.cell? ⟨b, 0, none⟩ = some (.int .u8 k)) (h0 : 0 ≤ k) (h1 : k < 256) :
    (convert 59 9 (.slice (some ⟨b, 0, none⟩) 1 1)).run Tryd.prog W = .ok (.string ⟨[UInt8.ofNat k.toNat].toArray⟩) W := by
  refine run_convert_bytes_back W 59 9 5 ⟨b, 0, none⟩ 1 [UInt8.ofNat k.toNat] Tryd.underlying59 Tryd.underlying5 Tryd.underlying9 ?_
  intro j hj
  have hj0 : j = 0 := by simpa using hj
  subst hj0
  have e : (UInt8.ofNat k.toNat).toNat = k.toNat := by rw [UInt8.toNat_ofNat']; omega
  show W.cell? (Addr.add ⟨b, 0, none⟩ 0) = _
  rw [show Addr.add ⟨b, 0, none⟩ 0 = ⟨b, 0, none⟩ from rfl, h]
  simp only [List.getElem_cons_zero, e]
  rw [Int.toNat_of_nonneg h0]

theorem cat_mk (W : World) (a b : List UInt8) (h : a.length + b.length ≤ 9223372036854775807) : (Op.stringOp .add ⟨a.toArray⟩ ⟨b.toArray⟩).run Tryd.prog W = .ok (.string ⟨(a ++ b).toArray⟩) W := by
  rw [run_string_add_sum W _ _ (by rw [Lib.size_mk, Lib.size_mk]; omega), ByteArray.mk_append_mk]

theorem dec_len (n : Nat) (h : n ≤ 1000000000000) : (Lib.decDigits n).length ≤ 21 := by
  have := Lib.itoa_length_le n (by omega) (by omega)
  rw [Nm.itoa_nat _ (by omega)] at this
  simpa using this

end Go.Proofs.YtjdkfkjkmjodlaaDoor

/- The walks of the document's answers of layer 1, second part: itoa. -/
namespace Go.Proofs.YtjdkfkjkmjodlaaDoor
open Go.RowKit

theorem below_call0 (w : World) {w2 : World} (h : Below w.drew.heap.size w.drew w2) : Below w.heap.size w w2 := (Below.refl _ w).drew.trans h
theorem below_call1 (w : World) (o : Obj) {w2 : World} (h : Below (w.alloc o).drew.heap.size (w.alloc o).drew w2) : Below w.heap.size w w2 := ((Below.refl _ w).alloc (Nat.le_refl _) o).drew.trans (h.mono (by simp))

end Go.Proofs.YtjdkfkjkmjodlaaDoor

/- The walks of the document's answers of layer 1, third part: Less, Cmp. -/
namespace Go.Proofs.YtjdkfkjkmjodlaaDoor
open Go.RowKit

theorem TwoAt.start0 (w : World) (na : Bool) (da : List UInt8) (xa : Int) (nb : Bool) (db : List UInt8) (xb : Int) (t : TypeId) :
    TwoAt w na da xa nb db xb ((w.alloc (.cells #[.bool na, .string ⟨da.toArray⟩, .int .i64 xa] t)).alloc (.cells #[.bool nb, .string ⟨db.toArray⟩, .int .i64 xb] t)) := by
  refine ⟨⟨?_, ?_, ?_⟩, ⟨?_, ?_, ?_⟩, below_two0 _ _ _, by simp⟩ <;> simp

theorem TwoAt.drew {w : World} {na : Bool} {da : List UInt8} {xa : Int} {nb : Bool} {db : List UInt8} {xb : Int} {W : World} (h : TwoAt w na da xa nb db xb W) : TwoAt w na da xa nb db xb W.drew := h.keep (Below.refl _ W).drew

end Go.Proofs.YtjdkfkjkmjodlaaDoor

/- The walks of the document's answers of layer 1, fourth part: MayNum. -/
namespace Go.Proofs.YtjdkfkjkmjodlaaDoor
open Go.RowKit

theorem byte_bne {c k : UInt8} (h : ¬ c = k) : ((c.toNat : Int) != (k.toNat : Int)) = true := by rw [bne, Nm.byte_ne h]; rfl

/-- What MayNum asks beside the digits. -/
def mayB (n : Nat) (x : Int) : Bool := !(decide (60 < n) || decide (x < -1000) || decide (1000 < x))

set_option maxHeartbeats 1000000 in
theorem mayNum_any (neg : Bool) (ds : List UInt8) (x : Int) (w : World) (hne : ds ≠ []) (hd : ∀ c ∈ ds, Nm.dig c = true) (hh : ds.head? ≠ some 48) (hl : ds.getLast? ≠ some 48) (hlen : ds.length ≤ 1000000) :
    Calls Tryd.prog 61 #[.agg #[.bool neg, .string ⟨ds.toArray⟩, .int .i64 x]] w fun e w' => e = .returned (.bool (mayB ds.length x)) ∧ Below w.heap.size w w' := by
  have hrun := (Nm.pre_all ds [] hd (fun c h => by cases h)).1
  rw [List.append_nil] at hrun
  have HR := Lib.hid hrun
  have HD := Lib.hid hd
  have HH := Lib.hid hh
  have HL := Lib.hid hl
  clear hrun hd hh hl
  rcases ds with _ | ⟨c, r⟩
  · exact absurd rfl hne
  · clear hne
    have hc : ∀ W : World, Calls Tryd.prog 23 #[.string ⟨(c :: r).toArray⟩, .int .i64 0] W fun e w' => e = .returned (.int .i64 (r.length + 1)) ∧ w' = W := fun W => by
      refine (run_any ⟨(c :: r).toArray⟩ 0 W (by rw [Lib.size_mk]; omega) (by omega) (by omega)).mono ?_
      rintro e w' ⟨rfl, rfl⟩
      refine ⟨?_, rfl⟩
      rw [show (⟨(c :: r).toArray⟩ : ByteArray).data.toList.drop (0 : Int).toNat = c :: r from rfl, HR.out]
      simp
    have HCC := Lib.hid hc
    clear hc
    have hcv : (c :: r).getLast (by simp) ≠ 48 := fun e => HL.out (by rw [List.getLast?_eq_some_getLast (by simp), e])
    have hc48 : c ≠ 48 := fun e => HH.out (by rw [e]; rfl)
    have hix : ∀ h, (⟨(c :: r).toArray⟩ : ByteArray)[0]'h = c := fun _ => rfl
    have hixl : ∀ h, (⟨(c :: r).toArray⟩ : ByteArray)[r.length]'h = (c :: r).getLast (by simp) := fun h => by
      rw [List.getLast_eq_getElem]
      rfl
    have n1 : ((c.toNat : Int) != 48) = true := byte_bne (k := 48) hc48
    have n2 : (((c :: r).getLast (by simp)).toNat != (48 : Int)) = true := byte_bne (k := 48) hcv
    generalize (c :: r).getLast (by simp) = lc at hixl n2 hcv
    clear hcv hc48 HH HL HD
    by_cases h1 : 60 < r.length + 1
    · have e1 : decide (60 < (r.length : Int) + 1) = true := by simp; omega
      have HB := Lib.hid (show mayB (r.length + 1) x = false by unfold mayB; simp; omega)
      go_enter Tryd.func61, Tryd.ntmps61
      go_wp2_with fail
      go_quiet ((go_at_call 23; exact Calls.quiet_of_same (HCC.out _)))
      go_wp2_with fail
      go_ret
      refine ⟨?_, below_drewN ((Below.refl _ _).alloc (Nat.le_refl _) _) _⟩
      rw [HB.out]
      rfl
    · have e1 : decide (60 < (r.length : Int) + 1) = false := by simp; omega
      by_cases h2 : x < -1000
      · have e2 : decide (x < -1000) = true := by simpa using h2
        have HB := Lib.hid (show mayB (r.length + 1) x = false by unfold mayB; simp; omega)
        go_enter Tryd.func61, Tryd.ntmps61
        go_wp2_with fail
        go_quiet ((go_at_call 23; exact Calls.quiet_of_same (HCC.out _)))
        go_wp2_with fail
        go_ret
        refine ⟨?_, below_drewN ((Below.refl _ _).alloc (Nat.le_refl _) _) _⟩
        rw [HB.out]
        rfl
      · have e2 : decide (x < -1000) = false := by simpa using h2
        by_cases h3 : 1000 < x
        · have e3 : decide (1000 < x) = true := by simpa using h3
          have HB := Lib.hid (show mayB (r.length + 1) x = false by unfold mayB; simp; omega)
          go_enter Tryd.func61, Tryd.ntmps61
          go_wp2_with fail
          go_quiet ((go_at_call 23; exact Calls.quiet_of_same (HCC.out _)))
          go_wp2_with fail
          go_ret
          refine ⟨?_, below_drewN ((Below.refl _ _).alloc (Nat.le_refl _) _) _⟩
          rw [HB.out]
          rfl
        · have e3 : decide (1000 < x) = false := by simpa using h3
          have HB := Lib.hid (show mayB (r.length + 1) x = true by unfold mayB; simp; omega)
          go_enter Tryd.func61, Tryd.ntmps61
          go_wp2_with fail
          go_quiet ((go_at_call 23; exact Calls.quiet_of_same (HCC.out _)))
          go_wp2_with fail
          go_ret
          refine ⟨?_, below_drewN ((Below.refl _ _).alloc (Nat.le_refl _) _) _⟩
          rw [HB.out]
          rfl

end Go.Proofs.YtjdkfkjkmjodlaaDoor

/- The walks of the document's answers of layer 1, fifth part: End. -/
namespace Go.Proofs.YtjdkfkjkmjodlaaDoor
open Go.RowKit

/-- A place in a text, and what stands from it on. -/
def From (s : ByteArray) (a : Int) (t : List UInt8) : Prop := 0 ≤ a ∧ a ≤ s.size ∧ s.data.toList.drop a.toNat = t

theorem From.some {s : ByteArray} {a : Int} {c : UInt8} {r : List UInt8} (h : From s a (c :: r)) : a < s.size ∧ (∀ h, s[a.toNat]'h = c) ∧ From s (a + 1) r := by
  obtain ⟨h0, h1, h2⟩ := h
  have hlt : a.toNat < s.data.toList.length := by
    rcases Nat.lt_or_ge a.toNat s.data.toList.length with h | h
    · exact h
    · rw [List.drop_eq_nil_of_le h] at h2; cases h2
  have he := List.drop_eq_getElem_cons hlt
  rw [h2] at he
  have hlt' : a.toNat < s.size := by rw [Lib.size_eq]; exact hlt
  refine ⟨by omega, fun h => ?_, by omega, by omega, ?_⟩
  · exact (List.cons.inj he).1.symm
  · rw [show (a + 1).toNat = a.toNat + 1 from by omega]; exact (List.cons.inj he).2.symm
theorem From.none {s : ByteArray} {a : Int} (h : From s a []) : ¬ a < s.size := by
  obtain ⟨h0, h1, h2⟩ := h
  have := congrArg List.length h2
  rw [List.length_drop, ← Lib.size_eq] at this
  simp at this
  omega
theorem From.more {s : ByteArray} {a : Int} {t : List UInt8} (h : From s a t) (n : Nat) (hn : n ≤ t.length) : From s (a + n) (t.drop n) := by
  obtain ⟨h0, h1, h2⟩ := h
  have := congrArg List.length h2
  rw [List.length_drop, ← Lib.size_eq] at this
  refine ⟨by omega, by omega, ?_⟩
  rw [show (a + n).toNat = a.toNat + n from by omega, ← List.drop_drop, h2]
theorem From.digits {s : ByteArray} {a : Int} {t : List UInt8} (h : From s a t) : From s (a + ((Nm.pre t).length : Nat)) (Nm.suf t) := by
  have := h.more (Nm.pre t).length (Nm.pre_len t)
  have e : t.drop (Nm.pre t).length = Nm.suf t := by
    have h2 := Nm.pre_suf t
    have h3 : (Nm.pre t ++ Nm.suf t).drop (Nm.pre t).length = Nm.suf t := List.drop_left
    rw [h2] at h3
    exact h3
  rw [e] at this
  exact this
theorem From.at_eq {s : ByteArray} {a : Int} {t : List UInt8} (h : From s a t) : a = (s.size : Int) - t.length := by
  obtain ⟨h0, h1, h2⟩ := h
  have := congrArg List.length h2
  rw [List.length_drop, ← Lib.size_eq] at this
  omega

theorem run_from {s : ByteArray} {a : Int} {t : List UInt8} (h : From s a t) (hs : s.size ≤ 4000000000000000000) (w : World) :
    Calls Tryd.prog 23 #[.string s, .int .i64 a] w fun e w' => e = .returned (.int .i64 (Nm.pre t).length) ∧ w = w' := by
  have := run_any s a w hs h.1 h.2.1
  rw [h.2.2] at this
  exact this

end Go.Proofs.YtjdkfkjkmjodlaaDoor


