/- The laws of layer 7 (edit): the laws' Pointer; a place's digits. -/
import Derived.Test.YtmdpjhcghdjmmaaJa
import Derived.Test.YtmdpjhcghdjmmaaPu
import Derived.Test.YtmdpjhcghdjmmaaMo
import Derived.Test.YtmdpjhcghdjmmaaMn
namespace Go.Proofs.Ytmdpjhcghdjmmaa
open Go.RowKit Pt

theorem own_names {w : World} {B : Nat} {A : Option Addr} {cp : Nat} {l : List (List UInt8)} (h : w.ownsRow B 9 1 (.slice A l.length cp) l.length (strs l)) : Strs w.cell? A l ∧ l.length ≤ cp ∧ cp ≤ maxLen ∧ (A = none → l.length = 0 ∧ cp = 0) := by
  obtain ⟨hl, ⟨h, h0⟩ | ⟨g, cap, cur, hv, hb, hc, h1, h2, h3, h4⟩⟩ := h
  · injection h with _ _ h2
    subst h2
    refine ⟨fun i n hi => ?_, by omega, by unfold maxLen; omega, fun _ => ⟨h0, rfl⟩⟩
    have := (List.getElem?_eq_some_iff.1 hi).1
    omega
  · injection hv with ha hn hcap
    subst hcap ha
    refine ⟨fun i n hi => ⟨g, 0, rfl, ?_⟩, h1, h2, fun h => by cases h⟩
    rw [Nat.zero_add, cell_of_row w g i cur 9 (0, 0) hc]
    have hx : (strs l)[i]? = some (.string ⟨n.toArray⟩) := by simp [strs, hi]
    rw [← h4] at hx
    have hx2 := List.getElem?_eq_some_iff.1 hx
    obtain ⟨h5, h6⟩ := hx2
    rw [List.getElem_take] at h6
    rw [← Array.getElem?_toList, List.getElem?_eq_some_iff]
    exact ⟨_, h6⟩

/-- What Pointer of the laws tells. -/
def LPtr (t : List UInt8) (w : World) (e : Ending) (w' : World) : Prop :=
  ∃ (l : List (List UInt8)) (A : Option Addr) (cp : Nat) (c : Int), e = .returned (.tuple #[.slice A l.length cp, .int .i64 c]) ∧ Strs w'.cell? A l ∧ l.length ≤ cp ∧ cp ≤ maxLen ∧ (A = none → l.length = 0 ∧ cp = 0) ∧ Below w.heap.size w w' ∧
    (c = 0 ∨ (c = 1 ∧ parse t = .ok l ∧ St.text t = true ∧ t.length ≤ 500))
theorem LPtr.no {t : List UInt8} {w w' : World} (hb : Below w.heap.size w w') : LPtr t w (.returned (.tuple #[.slice none 0 0, .int .i64 0])) w' :=
  ⟨[], none, 0, 0, rfl, fun i n h => by simp at h, Nat.le_refl _, by unfold maxLen; omega, fun _ => ⟨rfl, rfl⟩, hb, .inl rfl⟩

set_option linter.unusedSimpArgs false in
set_option linter.unusedVariables false in
set_option maxRecDepth 100000 in
set_option maxHeartbeats 1000000 in
theorem lawPointer_any (t : List UInt8) (w : World) (ht : t.length ≤ 1000000000000000000) : Calls Try.prog 7 #[.string ⟨t.toArray⟩] w (LPtr t w) := by
  have HTX := Lib.hid (text_any ⟨t.toArray⟩ w (by rw [Lib.size_mk]; exact ht))
  have htx : (⟨t.toArray⟩ : ByteArray).data.toList = t := rfl
  rw [htx] at HTX
  obtain ⟨q, hq⟩ : ∃ q, St.text t = q := ⟨_, rfl⟩
  have HQ := Lib.hid hq
  rw [hq] at HTX
  clear hq htx
  go_enter Try.func7, Try.ntmps7
  go_wp2_with fail
  refine HTX.out.mono ?_
  rintro e w1 ⟨rfl, hw⟩
  subst hw
  clear HTX
  by_cases g1 : 500 < t.length
  · have g1' : (500 : Int) < (t.length : Int) := by omega
    go_wp2_with fail
    go_ret2
    exact LPtr.no (Below.refl _ _)
  have g1' : ¬ (500 : Int) < (t.length : Int) := by omega
  cases q with
  | false =>
    go_wp2_with fail
    go_ret2
    exact LPtr.no (Below.refl _ _)
  | true =>
    have HP := Lib.hid (refPointer_any t w (by omega))
    go_wp2_with fail
    refine HP.out.mono ?_
    rintro e2 w2 ⟨hb, ⟨l, A, cp, hp, rfl, ho⟩ | ⟨p, hp, rfl⟩⟩
    · obtain ⟨o1, o2, o3, o4⟩ := own_names ho
      have HF := Lib.hid (show LPtr t w (.returned (.tuple #[.slice A l.length cp, .int .i64 1])) w2 from ⟨l, A, cp, 1, rfl, o1, o2, o3, o4, hb, .inr ⟨rfl, hp, HQ.out, by omega⟩⟩)
      clear ho o1 o2 o3 o4 hb
      go_wp2_with fail
      go_ret2
      exact HF.out
    · have HF := Lib.hid (show LPtr t w (.returned (.tuple #[.slice none 0 0, .int .i64 0])) w2 from LPtr.no hb)
      clear hb
      have hp0 : (0 : Int) ≤ (p : Int) := by omega
      go_wp2_with fail
      go_ret2
      exact HF.out

theorem showPlain_any (n : Nat) (w : World) (h : n ≤ 1000000) : Calls Try.prog 16 #[.int .i64 n] w fun e w' => e = .returned (.string ⟨(Lib.decDigits n).toArray⟩) ∧ Below w.heap.size w w' := by
  have HI := Lib.hid (itoa_pos n (n : Int) w (by omega) (by omega) (by omega))
  rw [show ((n : Int)).toNat = n by omega] at HI
  go_enter Try.func16, Try.ntmps16
  go_wp2_with fail
  refine HI.out.mono ?_
  rintro e w1 ⟨rfl, hb⟩
  go_wp2_with fail
  go_ret
  exact ⟨rfl, hb⟩

end Go.Proofs.Ytmdpjhcghdjmmaa

