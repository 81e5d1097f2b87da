/- The walks of the document's answers of layer 2, second part: hex, low. -/
import Derived.Test.YtbcoakonjgakbaaDoorSm
namespace Go.Proofs.YtbcoakonjgakbaaDoor
open Go.RowKit

/-- What hex tells: a number, or the place that goes wrong. -/
def hexV (p : Nat × Nat) : Nat := if p.2 < 4 then 0 else p.1
def hexP (a : Nat) (p : Nat × Nat) : Int := if p.2 < 4 then ((a + p.2 : Nat) : Int) else -1

/-- How far hex has come. -/
def Hexing (l : List UInt8) (len a : Nat) (v i : Value) (k r : Nat) : Prop :=
  k ≤ 4 ∧ a + k ≤ len ∧ Bd k r ∧ i = .int .i64 ((a + k : Nat) : Int) ∧ v = .int .i64 (r : Int) ∧ St.fourGo (4 - k) r k (l.drop k) = St.four l

set_option linter.unusedSimpArgs false in
set_option maxRecDepth 100000 in
set_option maxHeartbeats 1000000 in
theorem hex_any (s : ByteArray) (a : Nat) (w : World) (hs : s.size ≤ 4000000000000000000) (ha : a ≤ s.size) :
    Calls Tryd.prog 45 #[.string s, .int .i64 a] w fun e w' => e = .returned (.tuple #[.int .i64 (hexV (St.four (s.data.toList.drop a)) : Nat), .int .i64 (hexP a (St.four (s.data.toList.drop a)))]) ∧ w = w' := by
  have hlen : (s.data.toList.drop a).length = s.size - a := by rw [List.length_drop, ← Lib.size_eq]
  have HLEN := Lib.hid hlen
  clear hlen
  have HG : Hid (∀ k (h : a + k < s.size), s[a + k]'h = (s.data.toList.drop a)[k]'(by rw [HLEN.out]; omega)) := Lib.hid (fun k h => by rw [List.getElem_drop]; rfl)
  generalize s.data.toList.drop a = l at HLEN HG ⊢
  go_enter Tryd.func45, Tryd.ntmps45
  go_wp2
  go_loop [6, 7] (fun v i => ∃ k r, Hexing l s.size a v i k r) (fun _ i => a + 4 - (intOf i).toNat)
  case atStart => exact ⟨0, 0, by omega, by omega, by unfold Bd; omega, rfl, rfl, rfl⟩
  case round =>
    obtain ⟨k, r, hk, hks, hr, rfl, rfl, hf⟩ := hrel
    have HF := Lib.hid hf
    clear hf
    by_cases hk4 : k < 4
    · have hr4 := hr.lt hk4
      by_cases hlt : a + k < s.size
      · have hlk : k < l.length := by rw [HLEN.out]; omega
        have hix : ∀ h, s[a + k]'h = l[k] := fun h => HG.out k h
        have HS := Lib.hid (St.fourGo_step l (3 - k) k r hlk)
        generalize l[k] = c at HS hix
        have h256 := c.toNat_lt
        have hways : c.toNat < 48 ∨ (48 ≤ c.toNat ∧ c.toNat ≤ 57) ∨ (57 < c.toNat ∧ c.toNat < 65) ∨ (65 ≤ c.toNat ∧ c.toNat ≤ 70) ∨ (70 < c.toNat ∧ c.toNat < 97) ∨ (97 ≤ c.toNat ∧ c.toNat ≤ 102) ∨ 102 < c.toNat := by omega
        rcases hways with h | ⟨h, h'⟩ | ⟨h, h'⟩ | ⟨h, h'⟩ | ⟨h, h'⟩ | ⟨h, h'⟩ | h
        · have HD := Lib.hid (show St.hexv c = none by unfold St.hexv; rw [if_neg (by omega), if_neg (by omega), if_neg (by omega)])
          go_wp2
          go_ret2
          refine ⟨?_, rfl⟩
          have e : St.four l = (r, k) := by rw [← HF.out, show 4 - k = 3 - k + 1 by omega, HS.out, HD.out]
          rw [e, hexV, hexP, if_pos hk4, if_pos hk4]
          rfl
        · have HD := Lib.hid (show St.hexv c = some (c.toNat - 48) by unfold St.hexv; rw [if_pos (by omega)])
          have HV := Lib.hid (show 16 * (r : Int) + ((c.toNat : Int) - 48) = ((16 * r + (c.toNat - 48) : Nat) : Int) by omega)
          go_wp2
          go_round
          case rel => exact ⟨k + 1, 16 * r + (c.toNat - 48), by omega, by omega, hr.next hk4 (by omega), by go_num, by rw [← HV.out], by rw [← HF.out, show 4 - k = 3 - k + 1 by omega, HS.out, HD.out, show 4 - (k + 1) = 3 - k by omega]⟩
          case measure => simp [intOf]; omega
        · have HD := Lib.hid (show St.hexv c = none by unfold St.hexv; rw [if_neg (by omega), if_neg (by omega), if_neg (by omega)])
          go_wp2
          go_ret2
          refine ⟨?_, rfl⟩
          have e : St.four l = (r, k) := by rw [← HF.out, show 4 - k = 3 - k + 1 by omega, HS.out, HD.out]
          rw [e, hexV, hexP, if_pos hk4, if_pos hk4]
          rfl
        · have HD := Lib.hid (show St.hexv c = some (c.toNat - 55) by unfold St.hexv; rw [if_neg (by omega), if_neg (by omega), if_pos (by omega)])
          have HV := Lib.hid (show 16 * (r : Int) + ((c.toNat : Int) - 55) = ((16 * r + (c.toNat - 55) : Nat) : Int) by omega)
          go_wp2
          go_round
          case rel => exact ⟨k + 1, 16 * r + (c.toNat - 55), by omega, by omega, hr.next hk4 (by omega), by go_num, by rw [← HV.out], by rw [← HF.out, show 4 - k = 3 - k + 1 by omega, HS.out, HD.out, show 4 - (k + 1) = 3 - k by omega]⟩
          case measure => simp [intOf]; omega
        · have HD := Lib.hid (show St.hexv c = none by unfold St.hexv; rw [if_neg (by omega), if_neg (by omega), if_neg (by omega)])
          go_wp2
          go_ret2
          refine ⟨?_, rfl⟩
          have e : St.four l = (r, k) := by rw [← HF.out, show 4 - k = 3 - k + 1 by omega, HS.out, HD.out]
          rw [e, hexV, hexP, if_pos hk4, if_pos hk4]
          rfl
        · have HD := Lib.hid (show St.hexv c = some (c.toNat - 87) by unfold St.hexv; rw [if_neg (by omega), if_pos (by omega)])
          have HV := Lib.hid (show 16 * (r : Int) + ((c.toNat : Int) - 87) = ((16 * r + (c.toNat - 87) : Nat) : Int) by omega)
          go_wp2
          go_round
          case rel => exact ⟨k + 1, 16 * r + (c.toNat - 87), by omega, by omega, hr.next hk4 (by omega), by go_num, by rw [← HV.out], by rw [← HF.out, show 4 - k = 3 - k + 1 by omega, HS.out, HD.out, show 4 - (k + 1) = 3 - k by omega]⟩
          case measure => simp [intOf]; omega
        · have HD := Lib.hid (show St.hexv c = none by unfold St.hexv; rw [if_neg (by omega), if_neg (by omega), if_neg (by omega)])
          go_wp2
          go_ret2
          refine ⟨?_, rfl⟩
          have e : St.four l = (r, k) := by rw [← HF.out, show 4 - k = 3 - k + 1 by omega, HS.out, HD.out]
          rw [e, hexV, hexP, if_pos hk4, if_pos hk4]
          rfl
      · have HE := Lib.hid (show St.four l = (r, k) by rw [← HF.out]; exact St.fourGo_stop _ _ _ _ (by rw [HLEN.out]; omega))
        go_wp2
        go_ret2
        refine ⟨?_, rfl⟩
        rw [HE.out, hexV, hexP, if_pos hk4, if_pos hk4]
        rfl
    · obtain rfl : k = 4 := by omega
      have HE := Lib.hid (show St.four l = (r, 4) by rw [← HF.out]; rfl)
      go_wp2
      go_ret2
      refine ⟨?_, rfl⟩
      rw [HE.out, hexV, hexP, if_neg (by omega), if_neg (by omega)]
      rfl

end Go.Proofs.YtbcoakonjgakbaaDoor
