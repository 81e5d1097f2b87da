/- The walks of layer 1 (num), fourth part: exponent, normal. -/
import Derived.Test.YtbcoakonjgakbaaDoorWb
import Derived.Test.YtbcoakonjgakbaaDoorPureb
namespace Go.Proofs.YtbcoakonjgakbaaDoor
open Go.RowKit

set_option maxHeartbeats 400000 in
theorem exponent_any (a b : Bool) (p1 p2 p3 : List UInt8) (w : World) (hp : ∀ c ∈ p3, Nm.dig c = true) (hl : p3.length ≤ maxLen) :
    Calls Tryd.prog 29 #[.agg #[.bool a, .string ⟨p1.toArray⟩, .string ⟨p2.toArray⟩, .bool b, .string ⟨p3.toArray⟩]] w
      fun e w' => e = .returned (.int .i64 (Nm.expOf ⟨a, p1, p2, b, p3⟩)) ∧ Below w.heap.size w w' := by
  unfold maxLen at hl
  have HP := Lib.hid hp
  clear hp
  go_enter Tryd.func29, Tryd.ntmps29
  go_wp2
  go_loop [3, 8] (fun v i => ∃ k : Nat, k ≤ p3.length ∧ i = .int .i64 k ∧ v = .int .i64 (Nm.expo (p3.take k))) (fun _ i => p3.length - (intOf i).toNat)
  case atStart => exact ⟨0, Nat.zero_le _, rfl, rfl⟩
  case round =>
    obtain ⟨k, hk, rfl, rfl⟩ := hrel
    by_cases hlt : k < p3.length
    · have hx := Nm.expo_bd (p3.take k) (fun c hc => HP.out c (List.mem_of_mem_take hc))
      have hs := Nm.expo_snoc p3 k hlt
      have HS := Lib.hid hs
      clear hs
      have hd := Nm.dig_bd (HP.out p3[k] (List.getElem_mem hlt))
      obtain ⟨hx1, hx2⟩ := hx
      obtain ⟨hd1, hd2⟩ := hd
      have hix : ∀ h, (⟨p3.toArray⟩ : ByteArray)[k]'h = p3[k] := fun _ => rfl
      generalize Nm.expo (p3.take k) = ex at HS hx1 hx2 ⊢
      go_wp2
      go_round
      case rel => exact ⟨k + 1, by omega, by go_num, (by rw [HS.out]; unfold Nm.far; congr 2)⟩
      case measure => simp [intOf]; omega
    · have hke : k = p3.length := by omega
      subst hke
      rw [List.take_length]
      have hx := Nm.expo_bd p3 HP.out
      obtain ⟨hx1, hx2⟩ := hx
      cases b
      all_goals
        go_wp2
        go_ret
        exact ⟨rfl, (Below.refl _ _).alloc (Nat.le_refl _) _⟩

/-- A number, as a value. -/
abbrev numV (n : Nm.Num) : Value := .agg #[.bool n.neg, .string ⟨n.digits.toArray⟩, .int .i64 n.exp]

set_option maxHeartbeats 400000 in
theorem clone_any (s : ByteArray) (w : World) (hs : s.size ≤ 281474976710656) :
    Calls Tryd.prog 54 #[.string s] w fun e w' => e = .returned (.string s) ∧ Below w.heap.size w w' := by
  go_enter Tryd.func54, Tryd.ntmps54
  go_wp2_with fail
  refine (Tryd.stringslite_Clone _ _ hs).mono ?_
  rintro e w' ⟨rfl, hb⟩
  go_wp2
  go_ret
  exact ⟨rfl, hb⟩

set_option maxHeartbeats 400000 in
theorem normal_any (neg : Bool) (d : List UInt8) (x : Int) (w : World) (hd : d.length ≤ 1000000000000000) (hx1 : -4000000000000000 ≤ x) (hx2 : x ≤ 4000000000000000) :
    Calls Tryd.prog 28 #[.bool neg, .string ⟨d.toArray⟩, .int .i64 x] w
      fun e w' => e = .returned (.tuple #[numV (Nm.normal neg d x).1, .bool (Nm.normal neg d x).2]) ∧ Below w.heap.size w w' := by
  go_enter Tryd.func28, Tryd.ntmps28
  go_wp2_with fail
  refine (Tryd.strings_TrimLeft_one _ 48 (by decide) _).mono ?_
  rintro e w' ⟨rfl, rfl⟩
  rw [show (⟨d.toArray⟩ : ByteArray).data.toList = d from rfl]
  have hl : (Lib.trimLeftB d 48).length ≤ d.length := (List.dropWhile_sublist _).length_le
  generalize hll : Lib.trimLeftB d 48 = l at hl ⊢
  have HL := Lib.hid hll
  clear hll
  go_wp2_with fail
  refine (Tryd.strings_TrimRight_one _ 48 (by decide) _ (by rw [Lib.size_mk]; omega)).mono ?_
  rintro e w' ⟨rfl, rfl⟩
  rw [show (⟨l.toArray⟩ : ByteArray).data.toList = l from rfl]
  have hr : (Lib.trimRightB l 48).length ≤ l.length := by
    unfold Lib.trimRightB; rw [List.length_reverse]; have := (List.dropWhile_sublist (· == (48 : UInt8)) (l := l.reverse)).length_le; simpa using this
  generalize hrr : Lib.trimRightB l 48 = r at hr ⊢
  have HR := Lib.hid hrr
  clear hrr
  have HE := Lib.hid (Nm.normal_eq neg HL.out HR.out x)
  clear HL HR
  rcases r with _ | ⟨c, r⟩
  · go_wp2
    exact bodyPost_ret (v := .tuple #[numV (Nm.normal neg d x).1, .bool (Nm.normal neg d x).2]) (by rw [HE.out]; simp [results, Tryd.results28, go_sem, Nm.Num.zero]) rfl ⟨rfl, (Below.refl _ _).alloc (Nat.le_refl _) _⟩
  · by_cases hb : 60 < (c :: r).length ∨ x + ((l.length : Int) - (c :: r).length) < -1000 ∨ 1000 < x + ((l.length : Int) - (c :: r).length)
    · rw [if_neg (by simp), if_pos hb] at HE
      have hb' : 60 < r.length + 1 ∨ (r.length + 1 ≤ 60 ∧ x + ((l.length : Int) - (r.length + 1)) < -1000) ∨ (r.length + 1 ≤ 60 ∧ -1000 ≤ x + ((l.length : Int) - (r.length + 1)) ∧ 1000 < x + ((l.length : Int) - (r.length + 1))) := by
        simp only [List.length_cons] at hb; omega
      clear hb
      rcases hb' with hb' | ⟨hb1, hb2⟩ | ⟨hb1, hb2, hb3⟩
      all_goals
        go_wp2
        exact bodyPost_ret (v := .tuple #[numV (Nm.normal neg d x).1, .bool (Nm.normal neg d x).2]) (by rw [HE.out]; simp [results, Tryd.results28, go_sem, Nm.Num.zero]) rfl ⟨rfl, (Below.refl _ _).alloc (Nat.le_refl _) _⟩
    · rw [if_neg (by simp), if_neg hb] at HE
      simp only [List.length_cons] at hb hr
      have hb1 : r.length + 1 ≤ 60 := by omega
      have hb2 : -1000 ≤ x + ((l.length : Int) - (r.length + 1)) := by omega
      have hb3 : x + ((l.length : Int) - (r.length + 1)) ≤ 1000 := by omega
      clear hb
      go_wp2_with fail
      refine (clone_any _ _ (by rw [Lib.size_mk, List.length_cons]; omega)).mono ?_
      rintro e w1 ⟨rfl, hbl⟩
      obtain ⟨hc, hf⟩ := bcell hbl
      go_wp2
      exact bodyPost_ret (v := .tuple #[numV (Nm.normal neg d x).1, .bool (Nm.normal neg d x).2]) (by rw [HE.out]; simp [results, Tryd.results28, go_sem, hc]) rfl ⟨rfl, below_set (below_set (below_set (((Below.refl _ _).alloc (Nat.le_refl _) _).trans (hbl.mono (by simp))) (Nat.le_refl _) _ _) (Nat.le_refl _) _ _) (Nat.le_refl _) _ _⟩

end Go.Proofs.YtbcoakonjgakbaaDoor
