/- The walks of layer 2, eighth part: the document's Text, the laws' Pick and head. -/
import Derived.Test.YtbcoakonjgakbaaDoorSl
import Derived.Test.YtbcoakonjgakbaaDoorSf
import Derived.Laws.Concat
namespace Go.Proofs.YtbcoakonjgakbaaDoor
open Go.RowKit

theorem St.textGo_step (f : Nat) (l : List UInt8) (h : l ≠ []) : St.textGo (f + 1) l = if St.utf8 l = 0 then false else St.textGo f (l.drop (St.utf8 l)) := by
  cases l with
  | nil => exact absurd rfl h
  | cons c t => rfl
theorem St.textGo_nil (f : Nat) : St.textGo f [] = true := by cases f <;> rfl

/-- How far Text has come. -/
def Texting (l : List UInt8) (v : Value) (k f : Nat) : Prop := k ≤ l.length ∧ l.length - k ≤ f ∧ v = .int .i64 k ∧ St.textGo f (l.drop k) = St.text l

set_option maxHeartbeats 400000 in
theorem text_any (s : ByteArray) (w : World) (hs : s.size ≤ 1000000000000000000) :
    Calls Tryd.prog 23 #[.string s] w fun e w' => e = .returned (.bool (St.text s.data.toList)) ∧ w = w' := by
  have hsl : s.data.toList.length = s.size := (Lib.size_eq s).symm
  have HSL := Lib.hid hsl
  clear hsl
  go_enter Tryd.func23, Tryd.ntmps23
  go_wp2
  go_loop [3] (fun v => ∃ k f, Texting s.data.toList v k f) (fun v => s.size - (intOf v).toNat)
  case atStart => exact ⟨0, _, Nat.zero_le _, Nat.sub_le _ _, rfl, rfl⟩
  case round =>
    obtain ⟨k, f, hk, hf, rfl, hr⟩ := hrel
    rw [HSL.out] at hk hf
    have HR := Lib.hid hr
    clear hr
    by_cases hlt : k < s.size
    · obtain ⟨f, rfl⟩ : ∃ f', f = f' + 1 := ⟨f - 1, by omega⟩
      have HU := Lib.hid (St.textGo_step f (s.data.toList.drop k) (by rw [drop_at s k hlt]; simp))
      have hle := (St.utf8_le (s.data.toList.drop k)).1
      rw [List.length_drop, HSL.out] at hle
      go_wp2_with fail
      refine (utf8_any s k _ (by omega) hlt).mono ?_
      rintro e w' ⟨rfl, rfl⟩
      generalize St.utf8 (s.data.toList.drop k) = n at HU hle ⊢
      by_cases hn : n = 0
      · subst hn
        go_wp2
        go_ret
        refine ⟨?_, rfl⟩
        rw [← HR.out, HU.out]
        rfl
      · have hn' : ((n : Int) == 0) = false := by rw [beq_eq_false_iff_ne]; omega
        rw [if_neg hn, List.drop_drop] at HU
        go_wp2
        go_round
        case rel => exact ⟨k + n, f, by rw [HSL.out]; omega, by rw [HSL.out]; omega, by go_num, by rw [← HR.out, HU.out]⟩
        case measure => simp [intOf]; omega
    · have HE := Lib.hid (show St.text s.data.toList = true by rw [← HR.out, List.drop_eq_nil_of_le (by rw [HSL.out]; omega), St.textGo_nil])
      go_wp2
      go_ret
      refine ⟨?_, rfl⟩
      rw [HE.out]
      rfl

theorem tmod_ways (n m : Int) (hm : 0 < m) : (n.tmod m < 0 ∧ -m ≤ n.tmod m ∧ n.tmod m + m = n % m) ∨ (0 ≤ n.tmod m ∧ n.tmod m < m ∧ n.tmod m = n % m) := by
  have h1 := Int.emod_nonneg n (by omega : m ≠ 0)
  have h2 := Int.emod_lt_of_pos n hm
  rw [Int.tmod_eq_emod]
  split
  · right; omega
  · left; omega

set_option maxHeartbeats 400000 in
theorem pick_any (n m : Int) (w : World) (hm0 : 0 < m) (hm1 : m ≤ 1000000000) :
    Calls Tryd.prog 26 #[.int .i64 n, .int .i64 m] w fun e w' => e = .returned (.int .i64 (n % m)) ∧ w = w' := by
  have hne : m ≠ 0 := by omega
  have hz : (m == 0) = false := by simpa using hne
  rcases tmod_ways n m hm0 with ⟨h1, h2, h3⟩ | ⟨h1, h2, h3⟩
  · have H3 := Lib.hid h3
    clear h3
    go_enter Tryd.func26, Tryd.ntmps26
    go_wp2
    go_ret
    refine ⟨?_, rfl⟩
    rw [← H3.out]
    rfl
  · have H3 := Lib.hid h3
    clear h3
    go_enter Tryd.func26, Tryd.ntmps26
    go_wp2
    go_ret
    refine ⟨?_, rfl⟩
    rw [← H3.out]
    rfl

theorem St.up1 : St.unq [34, 97, 92, 117, 48, 48, 52, 49, 34] 0 = ⟨[97, 65], 9, 0, 0⟩ := by rfl
theorem St.up2 : St.quote [34, 10] = [34, 92, 34, 92, 117, 48, 48, 48, 97, 34] := by rfl

set_option maxHeartbeats 400000 in
theorem up2_any (w : World) (hT : Tabs w) :
    Calls Tryd.prog 19 #[] w fun e w' => e = .returned (.bool true) ∧ Below w.heap.size w w' := by
  have HT := Lib.hid hT
  clear hT
  go_enter Tryd.func19, Tryd.ntmps19
  go_wp2_with fail
  refine (unquote_any _ _ _ (by decide) (by decide) (by decide) HT.out).mono ?_
  rw [show (⟨#[34, 97, 92, 117, 48, 48, 52, 49, 34]⟩ : ByteArray).data.toList = [34, 97, 92, 117, 48, 48, 52, 49, 34] from rfl, St.up1]
  rintro e w1 (⟨_, rfl, hb1⟩ | ⟨h, _⟩)
  · go_wp2_with fail
    refine (quote_any _ _ (by decide)).mono ?_
    rw [show (⟨#[34, 10]⟩ : ByteArray).data.toList = [34, 10] from rfl, St.up2]
    rintro e w2 ⟨rfl, hb2⟩
    go_wp2
    go_ret
    exact ⟨rfl, hb1.trans (hb2.mono hb1.size)⟩
  · exfalso
    rcases h with h | h <;> cases h

end Go.Proofs.YtbcoakonjgakbaaDoor
