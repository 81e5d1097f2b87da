/- The walks of layer 2 (str), first part: wrong, isHigh, isLow, digit, fourDigits. -/
import Derived.Test.YtbcoakonjgakbaaDoorRows
import Derived.Test.YtbcoakonjgakbaaDoorSb
import Derived.WalkKit
import Derived.WalkSpells
import Derived.WalkLawsBesides
import Derived.Deep.QuietTactic
import Derived.BigQuiet
import Derived.RegionTactic
import Derived.Lib.Hide
namespace Go.Proofs.YtbcoakonjgakbaaDoor
open Go.RowKit

/-- An error with its place, new in a world. -/
abbrev spotO (a k : Int) : Obj := .cells #[.int .i64 a, .int .i64 k] 79
abbrev spotV (b : Nat) : Value := .iface 76 (.pointer (some ⟨b, 0, none⟩))

set_option maxHeartbeats 400000 in
theorem wrong_any (a k : Int) (w : World) :
    Calls Tryd.prog 41 #[.int .i64 a, .int .i64 k] w fun e w' => e = .returned (spotV w.heap.size) ∧ w' = w.alloc (spotO a k) := by
  go_enter Tryd.func41, Tryd.ntmps41
  go_wp2
  go_ret
  exact ⟨rfl, rfl⟩

set_option maxHeartbeats 400000 in
theorem isHigh_any (r : Nat) (w : World) :
    Calls Tryd.prog 89 #[.int .i32 r] w fun e w' => e = .returned (.bool (St.isHigh r)) ∧ w = w' := by
  unfold St.isHigh
  by_cases h1 : 55296 ≤ r
  · by_cases h2 : r ≤ 56319
    all_goals
      have k1 : decide ((55296 : Int) ≤ (r : Int)) = true := by simp; omega
      go_enter Tryd.func89, Tryd.ntmps89
      go_wp2
      go_ret
      refine ⟨?_, rfl⟩
      simp [h1, h2]
      try omega
  · have k1 : decide ((55296 : Int) ≤ (r : Int)) = false := by simp; omega
    go_enter Tryd.func89, Tryd.ntmps89
    go_wp2
    go_ret
    refine ⟨?_, rfl⟩
    simp [h1]

set_option maxHeartbeats 400000 in
theorem isLow_any (r : Nat) (w : World) :
    Calls Tryd.prog 90 #[.int .i32 r] w fun e w' => e = .returned (.bool (St.isLow r)) ∧ w = w' := by
  unfold St.isLow
  by_cases h1 : 56320 ≤ r
  · by_cases h2 : r ≤ 57343
    all_goals
      have k1 : decide ((56320 : Int) ≤ (r : Int)) = true := by simp; omega
      go_enter Tryd.func90, Tryd.ntmps90
      go_wp2
      go_ret
      refine ⟨?_, rfl⟩
      simp [h1, h2]
      try omega
  · have k1 : decide ((56320 : Int) ≤ (r : Int)) = false := by simp; omega
    go_enter Tryd.func90, Tryd.ntmps90
    go_wp2
    go_ret
    refine ⟨?_, rfl⟩
    simp [h1]

/-- What a digit of 16 counts, as digit tells it. -/
abbrev digV (c : UInt8) : Value := .tuple #[.int .i32 ((St.hexv c).getD 0 : Nat), .bool (St.hexv c).isSome]

set_option maxHeartbeats 400000 in
theorem digit_any (c : UInt8) (w : World) :
    Calls Tryd.prog 99 #[.int .u8 c.toNat] w fun e w' => e = .returned (digV c) ∧ w = w' := by
  have hc := c.toNat_lt
  by_cases a1 : 48 ≤ c.toNat ∧ c.toNat ≤ 57
  · have hv : St.hexv c = some (c.toNat - 48) := by unfold St.hexv; rw [if_pos a1]
    rw [digV, hv]
    obtain ⟨a1, a2⟩ := a1
    clear hv
    go_enter Tryd.func99, Tryd.ntmps99
    go_wp2
    go_ret2
    exact ⟨by simp; omega, rfl⟩
  · by_cases a2 : 97 ≤ c.toNat ∧ c.toNat ≤ 102
    · have hv : St.hexv c = some (c.toNat - 87) := by unfold St.hexv; rw [if_neg a1, if_pos a2]
      rw [digV, hv]
      obtain ⟨b1, b2⟩ := a2
      have a1' : 57 < c.toNat := by omega
      clear hv a1
      go_enter Tryd.func99, Tryd.ntmps99
      go_wp2
      go_ret2
      exact ⟨by simp; omega, rfl⟩
    · by_cases a3 : 65 ≤ c.toNat ∧ c.toNat ≤ 70
      · have hv : St.hexv c = some (c.toNat - 55) := by unfold St.hexv; rw [if_neg a1, if_neg a2, if_pos a3]
        rw [digV, hv]
        obtain ⟨b1, b2⟩ := a3
        have a1' : 57 < c.toNat := by omega
        have a2' : c.toNat < 97 := by omega
        clear hv a1 a2
        go_enter Tryd.func99, Tryd.ntmps99
        go_wp2
        go_ret2
        exact ⟨by simp; omega, rfl⟩
      · have hv : St.hexv c = none := by unfold St.hexv; rw [if_neg a1, if_neg a2, if_neg a3]
        rw [digV, hv]
        have hall : c.toNat < 48 ∨ (57 < c.toNat ∧ c.toNat < 65) ∨ (70 < c.toNat ∧ c.toNat < 97) ∨ 102 < c.toNat := by omega
        clear hv a1 a2 a3
        rcases hall with h | ⟨h, h'⟩ | ⟨h, h'⟩ | h
        all_goals
          go_enter Tryd.func99, Tryd.ntmps99
          go_wp2
          go_ret2
          exact ⟨rfl, rfl⟩

end Go.Proofs.YtbcoakonjgakbaaDoor
