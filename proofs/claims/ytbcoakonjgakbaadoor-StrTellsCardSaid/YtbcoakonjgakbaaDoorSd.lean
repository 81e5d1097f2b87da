/- The walks of layer 2 (str), second part: fourDigits. -/
import Derived.Test.YtbcoakonjgakbaaDoorSc
import Derived.Lib.Strings
import Derived.Laws.BitsLemmas
namespace Go.Proofs.YtbcoakonjgakbaaDoor
open Go.RowKit

/-- One round of fourDigits. -/
theorem St.fourGo_step (l : List UInt8) (j k r : Nat) (hk : k < l.length) : St.fourGo (j + 1) r k (l.drop k) = match St.hexv l[k] with
    | none => (r, k)
    | some d => St.fourGo j (16 * r + d) (k + 1) (l.drop (k + 1)) := by
  rw [List.drop_eq_getElem_cons hk]
  rfl
theorem St.fourGo_stop (l : List UInt8) (j k r : Nat) (hk : l.length ≤ k) : St.fourGo j r k (l.drop k) = (r, k) := by
  rw [List.drop_eq_nil_of_le hk]
  cases j <;> rfl

theorem wrap32 (n : Int) (h0 : 0 ≤ n) (h1 : n < 2 ^ 16) : IntKind.i32.wrap n = n := by
  have h2 : n < 65536 := h1
  simp [IntKind.wrap, IntKind.bits, IntKind.signed]
  omega

theorem or4 (r d : Nat) (hr : r < 4096) (hd : d < 16) : bits .or .i32 ((r : Int) * 16) (d : Int) = ((16 * r + d : Nat) : Int) := by
  rw [bits_join .i32 16 (by decide) wrap32 4 ((r : Int) * 16) d (by omega) (by omega) (by omega) (by omega) (by omega) (by omega)]
  omega

/-- How great a number of k digits of 16 can be. -/
def Bd (k r : Nat) : Prop := (k = 0 → r < 1) ∧ (k ≤ 1 → r < 16) ∧ (k ≤ 2 → r < 256) ∧ (k ≤ 3 → r < 4096) ∧ r < 65536
theorem Bd.next {k r d : Nat} (h : Bd k r) (hk : k < 4) (hd : d < 16) : Bd (k + 1) (16 * r + d) := by
  unfold Bd at *; omega
theorem Bd.lt {k r : Nat} (h : Bd k r) (hk : k < 4) : r < 4096 := h.2.2.2.1 (by omega)

set_option maxHeartbeats 400000 in
theorem fourDigits_any (s : ByteArray) (w : World) (hs : s.size ≤ 4000000000000000000) :
    Calls Tryd.prog 88 #[.string s] w fun e w' => e = .returned (.tuple #[.int .i32 (St.four s.data.toList).1, .int .i64 (St.four s.data.toList).2]) ∧ w = w' := by
  have hl := Lib.hid (Lib.size_eq s)
  have h4 : 4 < s.size ∨ s.size ≤ 4 := by omega
  rcases h4 with h4 | h4
  all_goals
    go_enter Tryd.func88, Tryd.ntmps88
    go_wp2
    go_loop [4, 11] (fun v i => ∃ k r : Nat, k ≤ 4 ∧ k ≤ s.size ∧ Bd k r ∧ i = .int .i64 k ∧ v = .int .i32 r ∧ St.fourGo (4 - k) r k (s.data.toList.drop k) = St.four s.data.toList) (fun _ i => 4 - (intOf i).toNat)
    case atStart => exact ⟨0, 0, by omega, by omega, by unfold Bd; omega, rfl, rfl, rfl⟩
    case round =>
      obtain ⟨k, r, hk, hks, hr, rfl, rfl, hf⟩ := hrel
      have HF := Lib.hid hf
      clear hf
      by_cases hlt : k < 4 ∧ k < s.size
      · obtain ⟨hk4, hlt⟩ := hlt
        have hr4 := hr.lt hk4
        have hix : ∀ h, s[k]'h = s.data.toList[k]'(by rw [← hl.out]; exact hlt) := fun _ => rfl
        have HS := Lib.hid (St.fourGo_step s.data.toList (3 - k) k r (by rw [← hl.out]; exact hlt))
        generalize s.data.toList[k]'(by rw [← hl.out]; exact hlt) = c at HS hix
        go_wp2_with fail
        refine (digit_any _ _).mono ?_
        rintro e w' ⟨rfl, rfl⟩
        cases hd : St.hexv c with
        | none =>
          rw [digV, hd]
          have HD := Lib.hid hd
          clear hd
          go_wp2
          go_ret2
          refine ⟨?_, rfl⟩
          rw [← HF.out, show 4 - k = 3 - k + 1 by omega, HS.out, HD.out]
          rfl
        | some d =>
          rw [digV, hd]
          have hd16 := St.hexv_lt hd
          have HD := Lib.hid hd
          clear hd
          go_wp2
          rw [or4 r d hr4 hd16]
          go_round
          case rel => exact ⟨k + 1, 16 * r + d, by omega, by omega, hr.next hk4 hd16, by go_num, rfl, by rw [← HF.out, show 4 - k = 3 - k + 1 by omega, HS.out, HD.out, show 4 - (k + 1) = 3 - k by omega]⟩
          case measure => simp [intOf]; omega
      · have HE : St.four s.data.toList = (r, k) := by
          rw [← HF.out]
          by_cases hk4 : k < 4
          · exact St.fourGo_stop _ _ _ _ (by rw [← hl.out]; omega)
          · rw [show 4 - k = 0 by omega]; rfl
        have HE' := Lib.hid HE
        clear HE
        go_wp2
        go_ret2
        refine ⟨?_, rfl⟩
        rw [HE'.out]
        simp
        try omega
end Go.Proofs.YtbcoakonjgakbaaDoor
