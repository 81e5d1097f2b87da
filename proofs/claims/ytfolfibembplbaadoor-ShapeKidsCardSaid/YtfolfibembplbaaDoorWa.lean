/- The walks of layer 1 (num), first part: cutDigits, cutSign. -/
import Derived.Test.YtfolfibembplbaaDoorRows
import Derived.Test.YtfolfibembplbaaDoorMa
import Derived.WalkKit
import Derived.WalkSpells
import Derived.WalkLawsBesides
import Derived.Deep.QuietTactic
import Derived.BigQuiet
import Derived.RegionTactic
import Derived.Lib.TrimByte
import Derived.Lib.Hide
namespace Go.Proofs.YtfolfibembplbaaDoor
open Go.RowKit

set_option maxHeartbeats 400000 in
theorem cutDigits_any (s : ByteArray) (w : World) (hs : s.size ≤ maxLen) :
    Calls Tryd.prog 56 #[.string s] w fun e w' => e = .returned (.tuple #[.string ⟨(Nm.pre s.data.toList).toArray⟩, .string ⟨(Nm.suf s.data.toList).toArray⟩]) ∧ w' = w.drew := by
  unfold maxLen at hs
  go_enter Tryd.func56, Tryd.ntmps56
  go_wp2
  go_loop [4] (fun i => ∃ k : Nat, k ≤ s.size ∧ i = .int .i64 k ∧ ∀ (j : Nat) b, j < k → s.data.toList[j]? = some b → Nm.dig b = true) (fun i => s.size - (intOf i).toNat)
  case atStart => exact ⟨0, Nat.zero_le _, rfl, fun j b hj => absurd hj (Nat.not_lt_zero _)⟩
  case round =>
    obtain ⟨k, hk, rfl, hc⟩ := hrel
    have hK : Lib.Kept (∀ (j : Nat) b, j < k → s.data.toList[j]? = some b → Nm.dig b = true) := hc
    clear hc
    by_cases hlt : k < s.size
    · have hg : Lib.Kept (s.data.toList[k]? = some s[k]) := by rw [List.getElem?_eq_getElem (by rw [← Lib.size_eq]; exact hlt)]; rfl
      by_cases hd : Nm.dig s[k] = true
      · have hd' := hd
        simp only [Nm.dig, Bool.and_eq_true, decide_eq_true_eq] at hd'
        obtain ⟨hd1, hd2⟩ := hd'
        have HD := Lib.hid hd
        clear hd
        go_wp2
        go_round
        case rel => exact ⟨k + 1, by omega, by go_num, fun j b hj hb => (by
          by_cases e : j = k
          · subst e; rw [hg] at hb; rw [← Option.some.inj hb]; exact HD.out
          · exact hK j b (by omega) hb)⟩
        case measure => simp [intOf]; omega
      · have hp := Nm.takeWhile_take Nm.dig s.data.toList k (by rw [← Lib.size_eq]; omega) hK (fun b hb => by rw [hg] at hb; rw [← Option.some.inj hb]; simpa using hd)
        have HP := Lib.hid hp
        clear hp
        have hd' : s[k].toNat < 48 ∨ 57 < s[k].toNat := by
          simp only [Nm.dig, Bool.and_eq_true, decide_eq_true_eq] at hd; omega
        clear hd
        rcases hd' with hd' | hd'
        all_goals
          go_wp2
          go_region
          go_wp2
          go_ret2
          refine ⟨?_, rfl⟩
          show Ending.returned (Value.tuple #[Value.string (s.extract 0 k), Value.string (s.extract k s.size)]) = _
          rw [Lib.extract_upto, Lib.extract_from, Nm.pre, Nm.suf, HP.out.1, HP.out.2]
    · have hp := Nm.takeWhile_take Nm.dig s.data.toList k (by rw [← Lib.size_eq]; omega) hK (fun b hb => by rw [List.getElem?_eq_none (by rw [← Lib.size_eq]; omega)] at hb; cases hb)
      have HP := Lib.hid hp
      clear hp
      go_wp2
      go_region
      go_wp2
      go_ret2
      refine ⟨?_, rfl⟩
      show Ending.returned (Value.tuple #[Value.string (s.extract 0 k), Value.string (s.extract k s.size)]) = _
      rw [Lib.extract_upto, Lib.extract_from, Nm.pre, Nm.suf, HP.out.1, HP.out.2]

set_option maxHeartbeats 400000 in
theorem cutSign_any (s : ByteArray) (w : World) (hs : s.size ≤ maxLen) :
    Calls Tryd.prog 57 #[.string s] w fun e w' => e = .returned (.tuple #[.bool (Nm.sgn s.data.toList), .string ⟨(Nm.unsgn s.data.toList).toArray⟩]) ∧ ∃ n, w' = w.drewN n := by
  unfold maxLen at hs
  by_cases h0 : 0 < s.size
  · have hl := Nm.first_of s h0
    have HL := Lib.hid hl
    clear hl
    have e0 := Nm.some_list s h0
    have e1 := Nm.some_full s h0
    by_cases c45 : s[0] = 45
    · have b45 : ((s[0].toNat : Int) == 45) = true := Nm.byte_eq c45
      have C45 := Lib.hid c45
      clear c45
      go_enter Tryd.func57, Tryd.ntmps57
      go_wp2
      go_region
      go_wp2
      go_ret2
      refine ⟨?_, 1, rfl⟩
      show Ending.returned (Value.tuple #[Value.bool _, Value.string (s.extract 1 s.size)]) = _
      rw [Lib.extract_from, HL.out]
      simp [Nm.sgn, Nm.unsgn, C45.out]
    · have b45 : ((s[0].toNat : Int) == 45) = false := Nm.byte_ne c45
      have C45 := Lib.hid c45
      clear c45
      by_cases c43 : s[0] = 43
      · have b43 : ((s[0].toNat : Int) == 43) = true := Nm.byte_eq c43
        have C43 := Lib.hid c43
        clear c43
        go_enter Tryd.func57, Tryd.ntmps57
        go_wp2
        go_region
        go_wp2
        go_ret2
        refine ⟨?_, 1, rfl⟩
        show Ending.returned (Value.tuple #[Value.bool _, Value.string (s.extract 1 s.size)]) = _
        rw [Lib.extract_from, HL.out]
        simp [Nm.sgn, Nm.unsgn, C43.out]
      · have b43 : ((s[0].toNat : Int) == 43) = false := Nm.byte_ne c43
        have C43 := Lib.hid c43
        clear c43
        go_enter Tryd.func57, Tryd.ntmps57
        go_wp2
        go_ret2
        refine ⟨?_, 0, rfl⟩
        show Ending.returned (Value.tuple #[Value.bool false, Value.string s]) = _
        rw [HL.out]
        simp only [Nm.sgn, Nm.unsgn, C45.out, C43.out, or_self, if_false]
        rw [← HL.out, Lib.mk_data]
        simp [C45.out]
  · have e0 := Nm.none_list s h0
    have e2 := Lib.hid (Nm.none_data s h0)
    go_enter Tryd.func57, Tryd.ntmps57
    go_wp2
    go_ret2
    refine ⟨?_, 0, rfl⟩
    show Ending.returned (Value.tuple #[Value.bool false, Value.string s]) = _
    rw [e2.out]
    simp only [Nm.sgn, Nm.unsgn]
    rw [← e2.out, Lib.mk_data]
end Go.Proofs.YtfolfibembplbaaDoor

