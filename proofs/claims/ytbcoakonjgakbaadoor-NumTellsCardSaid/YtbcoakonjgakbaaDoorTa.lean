/- The walks of the document's answers of layer 1, first part: run, zeros, Whole, itoa, ShowNum. -/
import Derived.Test.YtbcoakonjgakbaaDoorWi
import Derived.Test.YtbcoakonjgakbaaDoorPureg
import Derived.Laws.Concat
namespace Go.Proofs.YtbcoakonjgakbaaDoor
open Go.RowKit

set_option maxHeartbeats 400000 in
theorem run_any (s : ByteArray) (a : Int) (w : World) (hs : s.size ≤ 4000000000000000000) (h0 : 0 ≤ a) (h1 : a ≤ s.size) :
    Calls Tryd.prog 55 #[.string s, .int .i64 a] w fun e w' => e = .returned (.int .i64 (Nm.pre (s.data.toList.drop a.toNat)).length) ∧ w = w' := by
  obtain ⟨at', rfl⟩ := Int.eq_ofNat_of_zero_le h0
  rw [Int.toNat_natCast]
  have h1' : at' ≤ s.size := by omega
  clear h0 h1
  have hl : (s.data.toList.drop at').length = s.size - at' := by rw [List.length_drop, ← Lib.size_eq]
  have HL := Lib.hid hl
  clear hl
  go_enter Tryd.func55, Tryd.ntmps55
  go_wp2
  go_loop [5] (fun i => ∃ k : Nat, at' + k ≤ s.size ∧ i = .int .i64 k ∧ ∀ (j : Nat) b, j < k → (s.data.toList.drop at')[j]? = some b → Nm.dig b = true) (fun i => s.size - at' - (intOf i).toNat)
  case atStart => exact ⟨0, by omega, rfl, fun j b hj => absurd hj (Nat.not_lt_zero _)⟩
  case round =>
    obtain ⟨k, hk, rfl, hc⟩ := hrel
    have hK : Lib.Kept (∀ (j : Nat) b, j < k → (s.data.toList.drop at')[j]? = some b → Nm.dig b = true) := hc
    clear hc
    by_cases hlt : at' + k < s.size
    · have hg : Lib.Kept ((s.data.toList.drop at')[k]? = some s[at' + k]) := by
        rw [List.getElem?_drop, List.getElem?_eq_getElem (by rw [← Lib.size_eq]; exact hlt)]; rfl
      by_cases hd : Nm.dig s[at' + k] = true
      · have hd' := hd
        simp only [Nm.dig, Bool.and_eq_true, decide_eq_true_eq] at hd'
        obtain ⟨hd1, hd2⟩ := hd'
        have HD := Lib.hid hd
        clear hd
        go_wp2
        go_round
        case rel => exact ⟨k + 1, by omega, by go_num, fun j b hj hb => (by
          by_cases e : j = k
          · subst e; rw [hg] at hb; rw [← Option.some.inj hb]; exact HD.out
          · exact hK j b (by omega) hb)⟩
        case measure => simp [intOf]; omega
      · have hp := Nm.takeWhile_take Nm.dig (s.data.toList.drop at') k (by rw [HL.out]; omega) hK (fun b hb => by rw [hg] at hb; rw [← Option.some.inj hb]; simpa using hd)
        have HP := Lib.hid (show (Nm.pre (s.data.toList.drop at')).length = k by rw [Nm.pre, hp.1, List.length_take, HL.out]; omega)
        clear hp
        have hd' : s[at' + k].toNat < 48 ∨ 57 < s[at' + k].toNat := by
          simp only [Nm.dig, Bool.and_eq_true, decide_eq_true_eq] at hd; omega
        clear hd
        rcases hd' with hd' | hd'
        all_goals
          go_wp2
          go_ret
          refine ⟨?_, rfl⟩
          rw [HP.out]
          rfl
    · have hp := Nm.takeWhile_take Nm.dig (s.data.toList.drop at') k (by rw [HL.out]; omega) hK (fun b hb => by rw [List.getElem?_eq_none (by rw [HL.out]; omega)] at hb; cases hb)
      have HP := Lib.hid (show (Nm.pre (s.data.toList.drop at')).length = k by rw [Nm.pre, hp.1, List.length_take, HL.out]; omega)
      clear hp
      go_wp2
      go_ret
      refine ⟨?_, rfl⟩
      rw [HP.out]
      rfl

/-- A string and one byte more. -/
theorem snoc_mk (l : List UInt8) (c : UInt8) : (⟨l.toArray⟩ : ByteArray) ++ ⟨#[c]⟩ = ⟨(l ++ [c]).toArray⟩ := by
  rw [show (⟨#[c]⟩ : ByteArray) = ⟨[c].toArray⟩ from rfl, ByteArray.mk_append_mk]

set_option maxHeartbeats 400000 in
theorem zeros_any (n : Int) (w : World) (h0 : 0 ≤ n) (h1 : n ≤ 1000000) :
    Calls Tryd.prog 60 #[.int .i64 n] w fun e w' => e = .returned (.string ⟨(List.replicate n.toNat 48).toArray⟩) ∧ w = w' := by
  go_enter Tryd.func60, Tryd.ntmps60
  go_wp2
  go_loop [3, 4] (fun v i => ∃ k : Nat, (k : Int) ≤ n ∧ i = .int .i64 k ∧ v = .string ⟨(List.replicate k 48).toArray⟩) (fun _ i => n.toNat - (intOf i).toNat)
  case atStart => exact ⟨0, by omega, rfl, rfl⟩
  case round =>
    obtain ⟨k, hk, rfl, rfl⟩ := hrel
    generalize hq : List.replicate k (48 : UInt8) = q
    have HQ := Lib.hid hq
    have hql : q.length ≤ 1000000 := by rw [← hq, List.length_replicate]; omega
    have hadd : ∀ W : World, (Op.stringOp .add ⟨q.toArray⟩ ⟨#[48]⟩).run Tryd.prog W = .ok (.string ⟨(q ++ [48]).toArray⟩) W := fun W => by
      rw [run_string_add_sum W _ _ (by rw [Lib.size_mk]; simp [ByteArray.size]; omega), snoc_mk]
    clear hq
    by_cases hlt : (k : Int) < n
    · go_wp2
      go_round
      case rel => exact ⟨k + 1, by omega, by go_num, by rw [List.replicate_succ', HQ.out]⟩
      case measure => simp [intOf]; omega
    · go_wp2
      go_ret
      refine ⟨?_, rfl⟩
      have e : n.toNat = k := by omega
      show Ending.returned (Value.string ⟨q.toArray⟩) = _
      rw [← HQ.out]
      simp [e]

set_option maxHeartbeats 400000 in
theorem refWhole_any (neg : Bool) (ds : List UInt8) (x : Int) (w : World) :
    Calls Tryd.prog 16 #[.agg #[.bool neg, .string ⟨ds.toArray⟩, .int .i64 x]] w fun e w' => e = .returned (.bool (ds.isEmpty || decide (0 ≤ x))) ∧ Below w.heap.size w w' := by
  cases ds with
  | nil =>
    go_enter Tryd.func16, Tryd.ntmps16
    go_wp2
    go_ret
    exact ⟨rfl, (Below.refl _ _).alloc (Nat.le_refl _) _⟩
  | cons c r =>
    go_enter Tryd.func16, Tryd.ntmps16
    go_wp2
    go_ret
    exact ⟨by simp, (Below.refl _ _).alloc (Nat.le_refl _) _⟩

/-- One byte that lies in a block, as a string. -/
theorem one_byte (W : World) (b : Nat) (k : Int) (h : W.cell? ⟨b, 0, none⟩ = some (.int .u8 k)) (h0 : 0 ≤ k) (h1 : k < 256) :
    (convert 59 9 (.slice (some ⟨b, 0, none⟩) 1 1)).run Tryd.prog W = .ok (.string ⟨[UInt8.ofNat k.toNat].toArray⟩) W := by
  refine run_convert_bytes_back W 59 9 5 ⟨b, 0, none⟩ 1 [UInt8.ofNat k.toNat] Tryd.underlying59 Tryd.underlying5 Tryd.underlying9 ?_
  intro j hj
  have hj0 : j = 0 := by simpa using hj
  subst hj0
  have e : (UInt8.ofNat k.toNat).toNat = k.toNat := by rw [UInt8.toNat_ofNat']; omega
  show W.cell? (Addr.add ⟨b, 0, none⟩ 0) = _
  rw [show Addr.add ⟨b, 0, none⟩ 0 = ⟨b, 0, none⟩ from rfl, h]
  simp only [List.getElem_cons_zero, e]
  rw [Int.toNat_of_nonneg h0]

theorem cat_mk (W : World) (a b : List UInt8) (h : a.length + b.length ≤ 9223372036854775807) : (Op.stringOp .add ⟨a.toArray⟩ ⟨b.toArray⟩).run Tryd.prog W = .ok (.string ⟨(a ++ b).toArray⟩) W := by
  rw [run_string_add_sum W _ _ (by rw [Lib.size_mk, Lib.size_mk]; omega), ByteArray.mk_append_mk]

theorem dec_len (n : Nat) (h : n ≤ 1000000000000) : (Lib.decDigits n).length ≤ 21 := by
  have := Lib.itoa_length_le n (by omega) (by omega)
  rw [Nm.itoa_nat _ (by omega)] at this
  simpa using this

end Go.Proofs.YtbcoakonjgakbaaDoor
