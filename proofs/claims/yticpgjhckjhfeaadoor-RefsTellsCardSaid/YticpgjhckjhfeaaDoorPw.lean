/- Pw: Pw Py Pz, in one text. -/
import Derived.Test.YticpgjhckjhfeaaDoorPq
import Derived.Test.YticpgjhckjhfeaaDoorMr
import Derived.BigQuiet
import Derived.Deep.RegionLaw
/- The walks of layer 6 (ptr): the document's Get. -/
namespace Go.Proofs.YticpgjhckjhfeaaDoor
open Go.RowKit Pt Js

theorem get_cons (k : Int) (b : Bool) (n : Nm.Num) (s : List UInt8) (l : List Vl) (m : List Js.Mem) (nm : List UInt8) (ns : List (List UInt8)) : get (.mk k b n s l m) (nm :: ns) =
    if k = 4 then
      (match l[(index nm l.length false).1]? with
      | some x => if (index nm l.length false).2 = true then get x ns else none
      | none => none)
    else match (Vl.mk k b n s l m).find nm with
      | some x => get x ns
      | none => none := by
  rfl
theorem Blk.drewN {w : World} {g : Nat} {t : TypeId} {cs : Array Value} (h : Blk w g t cs) (n : Nat) : Blk (w.drewN n) g t cs := h
theorem sizeL_at {l : List Vl} {i : Nat} (h : i < l.length) : l[i].size ≤ sizeL l := by
  have h1 := sizeL_take l i h
  have h2 := sizeL_le l (i + 1)
  omega
/-- What Get tells: the value, or none. -/
def GetPost (c : Cl) (r : Option Vl) (w : World) (e : Ending) (w' : World) : Prop :=
  Below w.heap.size w w' ∧ ((∃ u y, r = some u ∧ e = .returned (.tuple #[y, .bool true]) ∧ u.In c y) ∨ (r = none ∧ ∃ y, e = .returned (.tuple #[y, .bool false]) ∧ Ps.mkN.In c y))
end Go.Proofs.YticpgjhckjhfeaaDoor

/- The walks of layer 6 (ptr): the document's Find, over a reading. -/
namespace Go.Proofs.YticpgjhckjhfeaaDoor
open Go.RowKit Pt Js

/-- What Find tells, over a reading. -/
def FindPostC (c : Cl) (r : Option Vl) (w : World) (e : Ending) (w' : World) : Prop :=
  ∃ x, e = .returned (.tuple #[x, .bool r.isSome]) ∧ (r.getD none0).In c x ∧ Below w.heap.size w w'
theorem FindPostC.no {c : Cl} {r : Option Vl} {w w' : World} (h : r = none) (hb : Below w.heap.size w w') : FindPostC c r w (.returned (.tuple #[zeroV, .bool false])) w' := by
  subst h; exact ⟨_, rfl, zero_in _, hb⟩
theorem FindPostC.yes {c : Cl} {r : Option Vl} {u : Vl} {w w' : World} {x : Value} (h : r = some u) (hx : u.In c x) (hb : Below w.heap.size w w') : FindPostC c r w (.returned (.tuple #[x, .bool true])) w' := by
  subst h; exact ⟨_, rfl, hx, hb⟩

set_option linter.unusedVariables false in
set_option linter.unusedSimpArgs false in
set_option maxRecDepth 100000 in
set_option maxHeartbeats 2000000 in
theorem refFindC_any (c : Cl) (v : Vl) (key : List UInt8) (x : Value) (w : World) (hcl : c.le w.cell?) (hx : v.In c x) :
    Calls Tryd.prog 51 #[x, .string ⟨key.toArray⟩] w (FindPostC c (v.find key) w) := by
  obtain ⟨k, b, n, s, l, m⟩ := v
  obtain ⟨A, e, B, d, rfl, q1, q2, q3, q4, q5, q6⟩ := In.form hx
  have H6 := Lib.hid (show SlM c B m from q6)
  have HB2 : Below w.heap.size w _ := (((Below.refl _ _).alloc (Nat.le_refl _) (.cells #[.int .i64 k, .bool b, .bool n.neg, .string ⟨n.digits.toArray⟩, .int .i64 n.exp, .string ⟨s.toArray⟩, .slice A l.length e, .slice B m.length d] 28)).alloc (by simp) (.cells #[.int .i64 0, .bool false, .bool false, .string ⟨#[]⟩, .int .i64 0, .string ⟨#[]⟩, .slice none 0 0, .slice none 0 0] 28))
  clear q5 q6 hx
  unfold maxLen at q2 q4
  go_enter Tryd.func51, Tryd.ntmps51
  go_wp2_with fail
  go_loopw [6] (Looking w k b n s (.slice A l.length e) (.slice B m.length d) m key) (fun i _ => m.length - (intOf i).toNat)
  case atStart => exact ⟨0, by omega, rfl, fun _ q hq => by simp at hq, rfl⟩
  case round =>
    obtain ⟨j, hj, rfl, hno, rfl⟩ := hrel
    have HNO := Lib.hid hno
    clear hno
    by_cases hlt : j < m.length
    · have hp := List.getElem?_eq_getElem hlt
      obtain ⟨g, o, y, rfl, hy, hk, hc⟩ := H6.out j _ hp
      obtain ⟨k1, b1, n1, g1, x1, s1, A1, l1, p1, B1, m1, d1, rfl⟩ := In.cells hy
      obtain ⟨e0, e1, e2, e3, e4, e5, e6, e7⟩ := (hc.keep hcl).eight
      have hk := hcl _ _ hk
      have hgw : g < w.heap.size := World.block_lt_of_cell? w _ hk
      have HY := Lib.hid hy
      have HNX := Lib.hid (show ∀ q ∈ m.take (j + 1), q ∈ m.take j ∨ q = m[j] by
        intro q hq
        rw [List.take_succ_eq_append_getElem hlt] at hq
        rcases List.mem_append.1 hq with h | h
        · exact .inl h
        · exact .inr (List.mem_singleton.1 h))
      have HFI := Lib.hid (fun h => find_first hp h)
      clear hp hy hc
      by_cases h5 : k = 5
      · subst h5
        by_cases hkey : m[j].1 = key
        · have HF := Lib.hid (show (Vl.mk 5 b n s l m).find key = some m[j].2 from by
            have := HFI.out (fun q hq => by rw [hkey]; exact HNO.out rfl q hq)
            rw [hkey] at this
            simpa [Vl.find] using this)
          have kk : (m[j].1 == key) = true := by simpa using hkey
          clear HFI hkey
          generalize m[j].1 = mk at *
          have hblk := Blk.new2 w (.cells #[.int .i64 5, .bool b, .bool n.neg, .string ⟨n.digits.toArray⟩, .int .i64 n.exp, .string ⟨s.toArray⟩, .slice A l.length e, .slice (some ⟨g, o, none⟩) m.length d] 28) 28 #[.int .i64 k1, .bool b1, .bool n1, .string ⟨g1.toArray⟩, .int .i64 x1, .string ⟨s1.toArray⟩, .slice A1 l1 p1, .slice B1 m1 d1]
          have HBLK := Lib.hid hblk
          clear hblk
          go_wp2_with fail
          refine bodyPost_ret (results_row (l := [_, _, _, _, _, _, _, _]) rfl _ _ _ rfl HBLK.out Tryd.underlying28 rfl (by kernel_rfl)) rfl ?_
          have hbb : Below w.heap.size w _ := (((Below.refl _ _).alloc (Nat.le_refl _) (.cells #[.int .i64 5, .bool b, .bool n.neg, .string ⟨n.digits.toArray⟩, .int .i64 n.exp, .string ⟨s.toArray⟩, .slice A l.length e, .slice (some ⟨g, o, none⟩) m.length d] 28)).alloc (by simp) (.cells #[.int .i64 k1, .bool b1, .bool n1, .string ⟨g1.toArray⟩, .int .i64 x1, .string ⟨s1.toArray⟩, .slice A1 l1 p1, .slice B1 m1 d1] 28))
          exact FindPostC.yes HF.out HY.out hbb
        · have HK := Lib.hid hkey
          have kk : (m[j].1 == key) = false := by simpa using hkey
          have HREL := Lib.hid (show (5 : Int) = 5 → ∀ q ∈ m.take (j + 1), q.1 ≠ key from fun _ q hq => (HNX.out q hq).elim (HNO.out rfl q) (fun e => by rw [e]; exact hkey))
          clear HFI hkey
          generalize m[j].1 = mk at *
          go_wp2_with fail
          go_roundw
          case rel => exact ⟨j + 1, by omega, by go_num, HREL.out, rfl⟩
          case measure => simp [intOf]; omega
      · have t1 : (k == 5) = false := by simpa using h5
        have HREL := Lib.hid (show k = 5 → ∀ q ∈ m.take (j + 1), q.1 ≠ key from fun h => absurd h h5)
        clear h5 HFI
        go_wp2_with fail
        go_roundw
        case rel => exact ⟨j + 1, by omega, by go_num, HREL.out, rfl⟩
        case measure => simp [intOf]; omega
    · obtain rfl : j = m.length := by omega
      have HF := Lib.hid (show (Vl.mk k b n s l m).find key = none from by
        unfold Vl.find
        simp only
        split
        · rename_i h5
          exact find_none (fun p hp => HNO.out h5 p (by rw [List.take_length]; exact hp))
        · rfl)
      have hblk := Blk.new2 w (.cells #[.int .i64 k, .bool b, .bool n.neg, .string ⟨n.digits.toArray⟩, .int .i64 n.exp, .string ⟨s.toArray⟩, .slice A l.length e, .slice B m.length d] 28) 28 #[.int .i64 0, .bool false, .bool false, .string ⟨#[]⟩, .int .i64 0, .string ⟨#[]⟩, .slice none 0 0, .slice none 0 0]
      have HBLK := Lib.hid hblk
      clear hblk
      go_wp2_with fail
      refine bodyPost_ret (results_row (l := [_, _, _, _, _, _, _, _]) rfl _ _ _ rfl HBLK.out Tryd.underlying28 rfl (by kernel_rfl)) rfl ?_
      exact FindPostC.no HF.out HB2

end Go.Proofs.YticpgjhckjhfeaaDoor

/- The walks of layer 6 (ptr): the document's Get, of a member; Get, whole. -/
namespace Go.Proofs.YticpgjhckjhfeaaDoor
open Go.RowKit Pt Js

/-- What the region of Find leaves. -/
def Found (c : Cl) (r : Option Vl) (rb : Bool) (n0 : Nat) (w2 : World) (v8 v9 : Value) (wc : World) : Prop :=
  ∃ (p8 : Nat) (cs : Array Value), v8 = .pointer (some ⟨p8, 0, none⟩) ∧ v9 = .bool rb ∧ Blk wc p8 28 cs ∧ (r.getD none0).In c (.agg cs) ∧ Blk wc (n0 + 1) 28 #[.int .i64 0, .bool false, .bool false, .string ⟨#[]⟩, .int .i64 0, .string ⟨#[]⟩, .slice none 0 0, .slice none 0 0] ∧ Below w2.heap.size w2 wc
theorem Blk.set8o {w : World} {g h : Nat} {t : TypeId} {cs : Array Value} (hb : Blk w g t cs) (hn : g ≠ h) (v0 v1 v2 v3 v4 v5 v6 v7 : Value) : Blk (Go.Proofs.YticpgjhckjhfeaaDoor.set8 w h v0 v1 v2 v3 v4 v5 v6 v7) g t cs := by
  unfold Blk
  rw [heap_set8 _ _ _ hn]
  exact hb
theorem sizeM_at {m : List Js.Mem} {p : Js.Mem} (h : p ∈ m) : p.2.size ≤ sizeM m := by
  obtain ⟨i, hi, rfl⟩ := List.getElem_of_mem h
  have h1 := sizeM_take m i hi
  have h2 := sizeM_le m (i + 1)
  omega
theorem find_size {v u : Vl} {key : List UInt8} (h : v.find key = some u) : u.size ≤ v.size := by
  obtain ⟨k, b, n, s, l, m⟩ := v
  unfold Vl.find at h
  simp only at h
  split at h
  · unfold Js.find at h
    obtain ⟨p, hp, rfl⟩ := Option.map_eq_some_iff.1 h
    have := sizeM_at (List.mem_of_find?_eq_some hp)
    simp only [Vl.size]
    omega
  · cases h

end Go.Proofs.YticpgjhckjhfeaaDoor


