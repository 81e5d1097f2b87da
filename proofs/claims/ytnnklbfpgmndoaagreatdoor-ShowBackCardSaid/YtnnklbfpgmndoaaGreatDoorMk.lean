/- Mk: Sc Sd, in one text. -/
import Derived.Test.YtnnklbfpgmndoaaGreatDoorRows
import Derived.Test.YtnnklbfpgmndoaaGreatDoorMb
import Derived.WalkKit
import Derived.WalkSpells
import Derived.WalkLawsBesides
import Derived.Deep.QuietTactic
import Derived.BigQuiet
import Derived.RegionTactic
import Derived.Lib.Hide
import Derived.Lib.Strings
import Derived.Laws.BitsLemmas
/- The walks of layer 2 (str), first part: wrong, isHigh, isLow, digit, fourDigits. -/
namespace Go.Proofs.YtnnklbfpgmndoaaGreatDoor
open Go.RowKit

/-- An error with its place, new in a world. -/
abbrev spotO (a k : Int) : Obj := .cells #[.int .i64 a, .int .i64 k] 50
abbrev spotV (b : Nat) : Value := .iface 47 (.pointer (some ⟨b, 0, none⟩))

set_option maxHeartbeats 400000 in
theorem wrong_any (a k : Int) (w : World) :
    Calls Tryz.prog 94 #[.int .i64 a, .int .i64 k] w fun e w' => e = .returned (spotV w.heap.size) ∧ w' = w.alloc (spotO a k) := by
  go_enter Tryz.func94, Tryz.ntmps94
  go_wp2
  go_ret
  exact ⟨rfl, rfl⟩

set_option maxHeartbeats 400000 in
theorem isHigh_any (r : Nat) (w : World) :
    Calls Tryz.prog 146 #[.int .i32 r] w fun e w' => e = .returned (.bool (St.isHigh r)) ∧ w = w' := by
  unfold St.isHigh
  by_cases h1 : 55296 ≤ r
  · by_cases h2 : r ≤ 56319
    all_goals
      have k1 : decide ((55296 : Int) ≤ (r : Int)) = true := by simp; omega
      go_enter Tryz.func146, Tryz.ntmps146
      go_wp2
      go_ret
      refine ⟨?_, rfl⟩
      simp [h1, h2]
      try omega
  · have k1 : decide ((55296 : Int) ≤ (r : Int)) = false := by simp; omega
    go_enter Tryz.func146, Tryz.ntmps146
    go_wp2
    go_ret
    refine ⟨?_, rfl⟩
    simp [h1]

set_option maxHeartbeats 400000 in
theorem isLow_any (r : Nat) (w : World) :
    Calls Tryz.prog 147 #[.int .i32 r] w fun e w' => e = .returned (.bool (St.isLow r)) ∧ w = w' := by
  unfold St.isLow
  by_cases h1 : 56320 ≤ r
  · by_cases h2 : r ≤ 57343
    all_goals
      have k1 : decide ((56320 : Int) ≤ (r : Int)) = true := by simp; omega
      go_enter Tryz.func147, Tryz.ntmps147
      go_wp2
      go_ret
      refine ⟨?_, rfl⟩
      simp [h1, h2]
      try omega
  · have k1 : decide ((56320 : Int) ≤ (r : Int)) = false := by simp; omega
    go_enter Tryz.func147, Tryz.ntmps147
    go_wp2
    go_ret
    refine ⟨?_, rfl⟩
    simp [h1]

/-- What a digit of 16 counts, as digit tells it. -/
abbrev digV (c : UInt8) : Value := .tuple #[.int .i32 ((St.hexv c).getD 0 : Nat), .bool (St.hexv c).isSome]

set_option maxHeartbeats 400000 in
theorem digit_any (c : UInt8) (w : World) :
    Calls Tryz.prog 153 #[.int .u8 c.toNat] w fun e w' => e = .returned (digV c) ∧ w = w' := by
  have hc := c.toNat_lt
  by_cases a1 : 48 ≤ c.toNat ∧ c.toNat ≤ 57
  · have hv : St.hexv c = some (c.toNat - 48) := by unfold St.hexv; rw [if_pos a1]
    rw [digV, hv]
    obtain ⟨a1, a2⟩ := a1
    clear hv
    go_enter Tryz.func153, Tryz.ntmps153
    go_wp2
    go_ret2
    exact ⟨by simp; omega, rfl⟩
  · by_cases a2 : 97 ≤ c.toNat ∧ c.toNat ≤ 102
    · have hv : St.hexv c = some (c.toNat - 87) := by unfold St.hexv; rw [if_neg a1, if_pos a2]
      rw [digV, hv]
      obtain ⟨b1, b2⟩ := a2
      have a1' : 57 < c.toNat := by omega
      clear hv a1
      go_enter Tryz.func153, Tryz.ntmps153
      go_wp2
      go_ret2
      exact ⟨by simp; omega, rfl⟩
    · by_cases a3 : 65 ≤ c.toNat ∧ c.toNat ≤ 70
      · have hv : St.hexv c = some (c.toNat - 55) := by unfold St.hexv; rw [if_neg a1, if_neg a2, if_pos a3]
        rw [digV, hv]
        obtain ⟨b1, b2⟩ := a3
        have a1' : 57 < c.toNat := by omega
        have a2' : c.toNat < 97 := by omega
        clear hv a1 a2
        go_enter Tryz.func153, Tryz.ntmps153
        go_wp2
        go_ret2
        exact ⟨by simp; omega, rfl⟩
      · have hv : St.hexv c = none := by unfold St.hexv; rw [if_neg a1, if_neg a2, if_neg a3]
        rw [digV, hv]
        have hall : c.toNat < 48 ∨ (57 < c.toNat ∧ c.toNat < 65) ∨ (70 < c.toNat ∧ c.toNat < 97) ∨ 102 < c.toNat := by omega
        clear hv a1 a2 a3
        rcases hall with h | ⟨h, h'⟩ | ⟨h, h'⟩ | h
        all_goals
          go_enter Tryz.func153, Tryz.ntmps153
          go_wp2
          go_ret2
          exact ⟨rfl, rfl⟩

end Go.Proofs.YtnnklbfpgmndoaaGreatDoor

/- The walks of layer 2 (str), second part: fourDigits. -/
namespace Go.Proofs.YtnnklbfpgmndoaaGreatDoor
open Go.RowKit

/-- One round of fourDigits. -/
theorem St.fourGo_step (l : List UInt8) (j k r : Nat) (hk : k < l.length) : St.fourGo (j + 1) r k (l.drop k) = match St.hexv l[k] with
    | none => (r, k)
    | some d => St.fourGo j (16 * r + d) (k + 1) (l.drop (k + 1)) := by
  rw [List.drop_eq_getElem_cons hk]
  rfl
theorem St.fourGo_stop (l : List UInt8) (j k r : Nat) (hk : l.length ≤ k) : St.fourGo j r k (l.drop k) = (r, k) := by
  rw [List.drop_eq_nil_of_le hk]
  cases j <;> rfl

theorem wrap32 (n : Int) (h0 : 0 ≤ n) (h1 : n < 2 ^ 16) : IntKind.i32.wrap n = n := by
  have h2 : n < 65536 := h1
  simp [IntKind.wrap, IntKind.bits, IntKind.signed]
  omega

theorem or4 (r d : Nat) (hr : r < 4096) (hd : d < 16) : bits .or .i32 ((r : Int) * 16) (d : Int) = ((16 * r + d : Nat) : Int) := by
  rw [bits_join .i32 16 (by decide) wrap32 4 ((r : Int) * 16) d (by omega) (by omega) (by omega) (by omega) (by omega) (by omega)]
  omega

/-- How great a number of k digits of 16 can be. -/
def Bd (k r : Nat) : Prop := (k = 0 → r < 1) ∧ (k ≤ 1 → r < 16) ∧ (k ≤ 2 → r < 256) ∧ (k ≤ 3 → r < 4096) ∧ r < 65536
theorem Bd.next {k r d : Nat} (h : Bd k r) (hk : k < 4) (hd : d < 16) : Bd (k + 1) (16 * r + d) := by
  unfold Bd at *; omega
theorem Bd.lt {k r : Nat} (h : Bd k r) (hk : k < 4) : r < 4096 := h.2.2.2.1 (by omega)

set_option maxHeartbeats 400000 in
theorem fourDigits_any (s : ByteArray) (w : World) (hs : s.size ≤ 4000000000000000000) :
    Calls Tryz.prog 145 #[.string s] w fun e w' => e = .returned (.tuple #[.int .i32 (St.four s.data.toList).1, .int .i64 (St.four s.data.toList).2]) ∧ w = w' := by
  have hl := Lib.hid (Lib.size_eq s)
  have h4 : 4 < s.size ∨ s.size ≤ 4 := by omega
  rcases h4 with h4 | h4
  all_goals
    go_enter Tryz.func145, Tryz.ntmps145
    go_wp2
    go_loop [4, 11] (fun v i => ∃ k r : Nat, k ≤ 4 ∧ k ≤ s.size ∧ Bd k r ∧ i = .int .i64 k ∧ v = .int .i32 r ∧ St.fourGo (4 - k) r k (s.data.toList.drop k) = St.four s.data.toList) (fun _ i => 4 - (intOf i).toNat)
    case atStart => exact ⟨0, 0, by omega, by omega, by unfold Bd; omega, rfl, rfl, rfl⟩
    case round =>
      obtain ⟨k, r, hk, hks, hr, rfl, rfl, hf⟩ := hrel
      have HF := Lib.hid hf
      clear hf
      by_cases hlt : k < 4 ∧ k < s.size
      · obtain ⟨hk4, hlt⟩ := hlt
        have hr4 := hr.lt hk4
        have hix : ∀ h, s[k]'h = s.data.toList[k]'(by rw [← hl.out]; exact hlt) := fun _ => rfl
        have HS := Lib.hid (St.fourGo_step s.data.toList (3 - k) k r (by rw [← hl.out]; exact hlt))
        generalize s.data.toList[k]'(by rw [← hl.out]; exact hlt) = c at HS hix
        go_wp2_with fail
        refine (digit_any _ _).mono ?_
        rintro e w' ⟨rfl, rfl⟩
        cases hd : St.hexv c with
        | none =>
          rw [digV, hd]
          have HD := Lib.hid hd
          clear hd
          go_wp2
          go_ret2
          refine ⟨?_, rfl⟩
          rw [← HF.out, show 4 - k = 3 - k + 1 by omega, HS.out, HD.out]
          rfl
        | some d =>
          rw [digV, hd]
          have hd16 := St.hexv_lt hd
          have HD := Lib.hid hd
          clear hd
          go_wp2
          rw [or4 r d hr4 hd16]
          go_round
          case rel => exact ⟨k + 1, 16 * r + d, by omega, by omega, hr.next hk4 hd16, by go_num, rfl, by rw [← HF.out, show 4 - k = 3 - k + 1 by omega, HS.out, HD.out, show 4 - (k + 1) = 3 - k by omega]⟩
          case measure => simp [intOf]; omega
      · have HE : St.four s.data.toList = (r, k) := by
          rw [← HF.out]
          by_cases hk4 : k < 4
          · exact St.fourGo_stop _ _ _ _ (by rw [← hl.out]; omega)
          · rw [show 4 - k = 0 by omega]; rfl
        have HE' := Lib.hid HE
        clear HE
        go_wp2
        go_ret2
        refine ⟨?_, rfl⟩
        rw [HE'.out]
        simp
        try omega
end Go.Proofs.YtnnklbfpgmndoaaGreatDoor


