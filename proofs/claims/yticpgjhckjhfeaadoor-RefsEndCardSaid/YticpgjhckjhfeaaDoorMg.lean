/- Mg: Vj Vk, in one text. -/
import Derived.Test.YticpgjhckjhfeaaDoorRows
import Derived.Test.YticpgjhckjhfeaaDoorVb
import Derived.Test.YticpgjhckjhfeaaDoorShelf
import Derived.WalkKit
import Derived.WalkSpells
import Derived.WalkLawsBesides
import Derived.Deep.QuietTactic
import Derived.BigQuiet
import Derived.RegionTactic
/- The walks of layer 3: the program's Find, and slices.BinarySearchFunc that it calls. -/
namespace Go.Proofs.YticpgjhckjhfeaaDoor
open Go.RowKit Js
def SearchPost (m : List Js.Mem) (key : List UInt8) (w : World) (e : Ending) (w' : World) : Prop :=
  ∃ (i : Nat) (b : Bool), e = .returned (.tuple #[.int .i64 i, .bool b]) ∧ Js.Found m key i b ∧ Below w.heap.size w w'
def Searching (m : List Js.Mem) (key : List UInt8) (w : World) (iv jv : Value) (wr : World) : Prop :=
  ∃ i j : Nat, iv = .int .i64 i ∧ jv = .int .i64 j ∧ Halving m key i j ∧ Below w.heap.size w wr

/-- The empty value. -/
abbrev zeroV : Value := vlV 0 false false [] 0 [] (.slice none 0 0) (.slice none 0 0)
abbrev Js.none0 : Vl := .mk 0 false ⟨false, [], 0⟩ [] [] []
theorem zero_in (c : Cl) : none0.In c zeroV := by
  simp only [Vl.In]
  exact ⟨none, 0, none, 0, rfl, Nat.le_refl _, by simp [maxLen], Nat.le_refl _, by simp [maxLen], fun h => absurd h (by simp), fun h => absurd h (by simp)⟩

/-- What Find tells. -/
def FindPost (r : Option Vl) (w : World) (e : Ending) (w' : World) : Prop :=
  ∃ x, e = .returned (.tuple #[x, .bool r.isSome]) ∧ (r.getD none0).In w'.cell? x ∧ Below w.heap.size w w'

theorem FindPost.no {r : Option Vl} {w w' : World} (h : r = none) (hb : Below w.heap.size w w') : FindPost r w (.returned (.tuple #[zeroV, .bool false])) w' := by
  subst h; exact ⟨_, rfl, zero_in _, hb⟩
theorem FindPost.yes {r : Option Vl} {u : Vl} {w w' : World} {x : Value} (h : r = some u) (hx : u.In w'.cell? x) (hb : Below w.heap.size w w') : FindPost r w (.returned (.tuple #[x, .bool true])) w' := by
  subst h; exact ⟨_, rfl, hx, hb⟩

end Go.Proofs.YticpgjhckjhfeaaDoor

/- The walk of layer 3: the document's Find. -/
namespace Go.Proofs.YticpgjhckjhfeaaDoor
open Go.RowKit Js

theorem find_first {m : List Js.Mem} {i : Nat} {p : Js.Mem} (hp : m[i]? = some p) (h : ∀ q ∈ m.take i, q.1 ≠ p.1) : Js.find m p.1 = some p.2 := by
  unfold Js.find
  induction m generalizing i with
  | nil => simp at hp
  | cons q m ih =>
    cases i with
    | zero => simp at hp; subst hp; simp
    | succ i =>
      have hne : ¬ q.1 = p.1 := h q (by simp)
      rw [List.find?_cons_of_neg (by simpa using hne)]
      exact ih (i := i) (by simpa using hp) (fun r hr => h r (by simp [hr]))

def Looking (w : World) (k : Int) (b : Bool) (n : Nm.Num) (s : List UInt8) (lv mv : Value) (m : List Js.Mem) (key : List UInt8) (i : Value) (wr : World) : Prop :=
  ∃ j : Nat, j ≤ m.length ∧ i = .int .i64 j ∧ (k = 5 → ∀ q ∈ m.take j, q.1 ≠ key) ∧ wr = (w.alloc (.cells #[.int .i64 k, .bool b, .bool n.neg, .string ⟨n.digits.toArray⟩, .int .i64 n.exp, .string ⟨s.toArray⟩, lv, mv] 28)).alloc (.cells #[.int .i64 0, .bool false, .bool false, .string ⟨#[]⟩, .int .i64 0, .string ⟨#[]⟩, .slice none 0 0, .slice none 0 0] 28)

set_option linter.unusedVariables false in
set_option linter.unusedSimpArgs false in
set_option maxRecDepth 100000 in
set_option maxHeartbeats 2000000 in
theorem refFind_any (v : Vl) (key : List UInt8) (x : Value) (w : World) (hx : v.In w.cell? x) :
    Calls Tryd.prog 51 #[x, .string ⟨key.toArray⟩] w (FindPost (v.find key) w) := by
  obtain ⟨k, b, n, s, l, m⟩ := v
  obtain ⟨A, e, B, d, rfl, q1, q2, q3, q4, q5, q6⟩ := In.form hx
  have H6 := Lib.hid (show SlM w.cell? B m from q6)
  have HB2 : Below w.heap.size w _ := (((Below.refl _ _).alloc (Nat.le_refl _) (.cells #[.int .i64 k, .bool b, .bool n.neg, .string ⟨n.digits.toArray⟩, .int .i64 n.exp, .string ⟨s.toArray⟩, .slice A l.length e, .slice B m.length d] 28)).alloc (by simp) (.cells #[.int .i64 0, .bool false, .bool false, .string ⟨#[]⟩, .int .i64 0, .string ⟨#[]⟩, .slice none 0 0, .slice none 0 0] 28))
  clear q5 q6 hx
  unfold maxLen at q2 q4
  go_enter Tryd.func51, Tryd.ntmps51
  go_wp2_with fail
  go_loopw [6] (Looking w k b n s (.slice A l.length e) (.slice B m.length d) m key) (fun i _ => m.length - (intOf i).toNat)
  case atStart => exact ⟨0, by omega, rfl, fun _ q hq => by simp at hq, rfl⟩
  case round =>
    obtain ⟨j, hj, rfl, hno, rfl⟩ := hrel
    have HNO := Lib.hid hno
    clear hno
    by_cases hlt : j < m.length
    · have hp := List.getElem?_eq_getElem hlt
      obtain ⟨g, o, y, rfl, hy, hk, hc⟩ := H6.out j _ hp
      obtain ⟨k1, b1, n1, g1, x1, s1, A1, l1, p1, B1, m1, d1, rfl⟩ := In.cells hy
      obtain ⟨e0, e1, e2, e3, e4, e5, e6, e7⟩ := hc.eight
      have hgw : g < w.heap.size := World.block_lt_of_cell? w _ hk
      have HY := Lib.hid hy
      have HNX := Lib.hid (show ∀ q ∈ m.take (j + 1), q ∈ m.take j ∨ q = m[j] by
        intro q hq
        rw [List.take_succ_eq_append_getElem hlt] at hq
        rcases List.mem_append.1 hq with h | h
        · exact .inl h
        · exact .inr (List.mem_singleton.1 h))
      have HFI := Lib.hid (fun h => find_first hp h)
      clear hp hy hc
      by_cases h5 : k = 5
      · subst h5
        by_cases hkey : m[j].1 = key
        · have HF := Lib.hid (show (Vl.mk 5 b n s l m).find key = some m[j].2 from by
            have := HFI.out (fun q hq => by rw [hkey]; exact HNO.out rfl q hq)
            rw [hkey] at this
            simpa [Vl.find] using this)
          have kk : (m[j].1 == key) = true := by simpa using hkey
          clear HFI hkey
          generalize m[j].1 = mk at *
          have hblk := Blk.new2 w (.cells #[.int .i64 5, .bool b, .bool n.neg, .string ⟨n.digits.toArray⟩, .int .i64 n.exp, .string ⟨s.toArray⟩, .slice A l.length e, .slice (some ⟨g, o, none⟩) m.length d] 28) 28 #[.int .i64 k1, .bool b1, .bool n1, .string ⟨g1.toArray⟩, .int .i64 x1, .string ⟨s1.toArray⟩, .slice A1 l1 p1, .slice B1 m1 d1]
          have HBLK := Lib.hid hblk
          clear hblk
          go_wp2_with fail
          refine bodyPost_ret (results_row (l := [_, _, _, _, _, _, _, _]) rfl _ _ _ rfl HBLK.out Tryd.underlying28 rfl (by kernel_rfl)) rfl ?_
          have hbb : Below w.heap.size w _ := (((Below.refl _ _).alloc (Nat.le_refl _) (.cells #[.int .i64 5, .bool b, .bool n.neg, .string ⟨n.digits.toArray⟩, .int .i64 n.exp, .string ⟨s.toArray⟩, .slice A l.length e, .slice (some ⟨g, o, none⟩) m.length d] 28)).alloc (by simp) (.cells #[.int .i64 k1, .bool b1, .bool n1, .string ⟨g1.toArray⟩, .int .i64 x1, .string ⟨s1.toArray⟩, .slice A1 l1 p1, .slice B1 m1 d1] 28))
          exact FindPost.yes HF.out (In.keep (le_below hbb) _ _ HY.out) hbb
        · have HK := Lib.hid hkey
          have kk : (m[j].1 == key) = false := by simpa using hkey
          have HREL := Lib.hid (show (5 : Int) = 5 → ∀ q ∈ m.take (j + 1), q.1 ≠ key from fun _ q hq => (HNX.out q hq).elim (HNO.out rfl q) (fun e => by rw [e]; exact hkey))
          clear HFI hkey
          generalize m[j].1 = mk at *
          go_wp2_with fail
          go_roundw
          case rel => exact ⟨j + 1, by omega, by go_num, HREL.out, rfl⟩
          case measure => simp [intOf]; omega
      · have t1 : (k == 5) = false := by simpa using h5
        have HREL := Lib.hid (show k = 5 → ∀ q ∈ m.take (j + 1), q.1 ≠ key from fun h => absurd h h5)
        clear h5 HFI
        go_wp2_with fail
        go_roundw
        case rel => exact ⟨j + 1, by omega, by go_num, HREL.out, rfl⟩
        case measure => simp [intOf]; omega
    · obtain rfl : j = m.length := by omega
      have HF := Lib.hid (show (Vl.mk k b n s l m).find key = none from by
        unfold Vl.find
        simp only
        split
        · rename_i h5
          exact find_none (fun p hp => HNO.out h5 p (by rw [List.take_length]; exact hp))
        · rfl)
      have hblk := Blk.new2 w (.cells #[.int .i64 k, .bool b, .bool n.neg, .string ⟨n.digits.toArray⟩, .int .i64 n.exp, .string ⟨s.toArray⟩, .slice A l.length e, .slice B m.length d] 28) 28 #[.int .i64 0, .bool false, .bool false, .string ⟨#[]⟩, .int .i64 0, .string ⟨#[]⟩, .slice none 0 0, .slice none 0 0]
      have HBLK := Lib.hid hblk
      clear hblk
      go_wp2_with fail
      refine bodyPost_ret (results_row (l := [_, _, _, _, _, _, _, _]) rfl _ _ _ rfl HBLK.out Tryd.underlying28 rfl (by kernel_rfl)) rfl ?_
      exact FindPost.no HF.out HB2

end Go.Proofs.YticpgjhckjhfeaaDoor


