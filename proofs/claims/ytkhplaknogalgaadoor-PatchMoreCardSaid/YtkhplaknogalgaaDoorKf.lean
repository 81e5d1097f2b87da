/- Kf: Kf Kg, in one text. -/
import Derived.Test.YtkhplaknogalgaaDoorKa
import Derived.Test.YtkhplaknogalgaaDoorPw
import Derived.Test.YtkhplaknogalgaaDoorMg
/- The walks of layer 6 (ptr): the program's Find over a reading, within, Get. -/
namespace Go.Proofs.YtkhplaknogalgaaDoor.Pt
open Js

/-- What one name means in a value. -/
def stepV : Vl → List UInt8 → Option Vl
  | .mk k b n s l m, nm => if k = 4 then (if (index nm l.length false).2 = true then l[(index nm l.length false).1]? else none) else (Vl.mk k b n s l m).find nm
theorem stepV_mk (k : Int) (b : Bool) (n : Nm.Num) (s : List UInt8) (l : List Vl) (m : List Js.Mem) (nm : List UInt8) :
    stepV (.mk k b n s l m) nm = if k = 4 then (if (index nm l.length false).2 = true then l[(index nm l.length false).1]? else none) else (Vl.mk k b n s l m).find nm := rfl
theorem get_step (v : Vl) (nm : List UInt8) (ns : List (List UInt8)) : get v (nm :: ns) = match stepV v nm with
    | some x => get x ns
    | none => none := by
  obtain ⟨k, b, n, s, l, m⟩ := v
  rw [get_cons, stepV_mk]
  by_cases hk : k = 4
  · rw [if_pos hk, if_pos hk]
    by_cases hi : (index nm l.length false).2 = true
    · rw [if_pos hi]
      cases l[(index nm l.length false).1]? with
      | none => rfl
      | some x => simp only; rw [if_pos hi]
    · rw [if_neg hi]
      cases l[(index nm l.length false).1]? with
      | none => rfl
      | some x => simp only; rw [if_neg hi]
  · rw [if_neg hk, if_neg hk]; rfl
theorem may_el {l : List Vl} (h : mayL l = true) {u : Vl} (hu : u ∈ l) : u.may = true := by
  induction l with
  | nil => cases hu
  | cons v l ih =>
    simp only [mayL, Bool.and_eq_true] at h
    rcases List.mem_cons.1 hu with rfl | hu
    · exact h.1
    · exact ih h.2 hu
theorem may_mem {m : List Js.Mem} (h : mayM m = true) {p : Js.Mem} (hp : p ∈ m) : p.2.may = true := by
  induction m with
  | nil => cases hp
  | cons q m ih =>
    obtain ⟨qk, qv⟩ := q
    simp only [mayM, mayP, Bool.and_eq_true] at h
    rcases List.mem_cons.1 hp with rfl | hp
    · exact h.1.2
    · exact ih h.2 hp
theorem step_may {v u : Vl} {nm : List UInt8} (h : v.may = true) (hu : stepV v nm = some u) : u.may = true ∧ u.size ≤ v.size := by
  obtain ⟨k, b, n, s, l, m⟩ := v
  rw [stepV_mk] at hu
  split at hu
  · split at hu
    · obtain ⟨hi, hl⟩ := List.getElem?_eq_some_iff.1 hu
      subst hl
      refine ⟨may_el (may_own h).2.2.2.2.2.2.2.2.2.1 (List.getElem_mem hi), ?_⟩
      have := sizeL_at hi
      simp only [Vl.size]; omega
    · cases hu
  · refine ⟨?_, find_size hu⟩
    unfold Vl.find at hu
    simp only at hu
    split at hu
    · unfold Js.find at hu
      obtain ⟨p, hp, rfl⟩ := Option.map_eq_some_iff.1 hu
      exact may_mem (may_own h).2.2.2.2.2.2.2.2.2.2.1 (List.mem_of_find?_eq_some hp)
    · cases hu

/-- Keys rise. -/
def Rises : Vl → Prop
  | .mk _ _ _ _ _ m => rises (m.map (·.1)) = true
/-- Keys rise in it, and in whatever a name leads to. -/
structure Steps (M : Vl → Prop) : Prop where
  rises : ∀ v, M v → Rises v
  step : ∀ v u nm, M v → stepV v nm = some u → M u ∧ u.size ≤ v.size
theorem may_steps : Steps (fun v => v.may = true) := ⟨fun v h => by
  obtain ⟨k, b, n, s, l, m⟩ := v
  exact (may_own h).2.2.2.2.2.2.2.2.2.2.2, fun _ _ _ h hu => step_may h hu⟩

end Go.Proofs.YtkhplaknogalgaaDoor.Pt
namespace Go.Proofs.YtkhplaknogalgaaDoor
open Go.RowKit Pt Js

set_option linter.unusedVariables false in
set_option linter.unusedSimpArgs false in
set_option maxRecDepth 100000 in
set_option maxHeartbeats 2000000 in
theorem findC_any (c : Cl) (v : Vl) (key : List UInt8) (x : Value) (w : World) (hv : Rises v) (hsz : v.size ≤ 1000000000000) (hcl : c.le w.cell?) (hx : v.In c x) :
    Calls Tryd.prog 35 #[x, .string ⟨key.toArray⟩] w (FindPostC c (v.find key) w) := by
  obtain ⟨k, b, n, s, l, m⟩ := v
  obtain ⟨A, e, B, d, rfl, q1, q2, q3, q4, q5, q6⟩ := In.form hx
  have hr : rises (m.map (·.1)) = true := hv
  have H6 := Lib.hid (show SlM c B m from q6)
  have HCL := Lib.hid hcl
  have hml : m.length ≤ 1000000000000 := by have := sizeM_len m; simp only [Vl.size] at hsz; omega
  have HB2 : Below w.heap.size w _ := (((Below.refl _ _).alloc (Nat.le_refl _) (.cells #[.int .i64 k, .bool b, .bool n.neg, .string ⟨n.digits.toArray⟩, .int .i64 n.exp, .string ⟨s.toArray⟩, .slice A l.length e, .slice B m.length d] 28)).alloc (by simp) (.cells #[.int .i64 0, .bool false, .bool false, .string ⟨#[]⟩, .int .i64 0, .string ⟨#[]⟩, .slice none 0 0, .slice none 0 0] 28))
  clear q5 q6 hx hv hcl
  by_cases hk : k = 5
  · subst hk
    have HS := Lib.hid (fun W hs => search_any m key B d W hr q3 q4 hml hs)
    have HSL := Lib.hid (H6.out.keep (HCL.out.trans (le_below HB2)))
    have HF := Lib.hid (show (Vl.mk 5 b n s l m).find key = Js.find m key from by simp [Vl.find])
    have HR := Lib.hid hr
    clear hr
    unfold maxLen at q2 q4
    go_enter Tryd.func35, Tryd.ntmps35
    go_wp2_with fail
    refine (HS.out _ HSL.out).mono ?_
    rintro e' w2 ⟨i, bb, rfl, hfd, hb2⟩
    have hb := HB2.trans (hb2.mono (by simp; omega))
    cases bb with
    | false =>
      have HN := Lib.hid (find_none (hfd.2.2 rfl))
      clear hfd
      have hblk := (Blk.new2 _ _ _ _).on hb2
      obtain ⟨z0, z1, z2, z3, z4, z5, z6, z7⟩ := hblk.eight
      have zf := hblk.frozen
      have hb2l := hblk.lt
      have HBLK := Lib.hid hblk
      clear hblk
      go_wp2_with fail
      refine bodyPost_ret (results_row (l := [_, _, _, _, _, _, _, _]) rfl _ _ _ rfl (HBLK.out.set8 _ _ _ _ _ _ _ _) Tryd.underlying28 rfl (by kernel_rfl)) rfl ?_
      exact FindPostC.no (HF.out.trans HN.out) (below_set8 hb (by omega) _ _ _ _ _ _ _ _)
    | true =>
      obtain ⟨p, hp, rfl⟩ := hfd.2.1 rfl
      have HN := Lib.hid (find_at HR.out hp)
      obtain ⟨g, o, y, rfl, hy, hk, hc⟩ := H6.out i _ hp
      have hi : i < m.length := (List.getElem?_eq_some_iff.1 hp).1
      obtain ⟨k1, b1, n1, g1, x1, s1, A1, l1, p1, B1, m1, d1, rfl⟩ := In.cells hy
      have hle : Cl.le w.cell? w2.cell? := le_below hb
      obtain ⟨e0, e1, e2, e3, e4, e5, e6, e7⟩ := (hc.keep (HCL.out.trans hle)).eight
      have hgl : g < w2.heap.size := World.block_lt_of_cell? w2 _ e0
      have hgw : g < w.heap.size := World.block_lt_of_cell? w _ (HCL.out _ _ hk)
      have HY := Lib.hid hy
      have hblk := (Blk.new2 _ _ _ _).on hb2
      obtain ⟨z0, z1, z2, z3, z4, z5, z6, z7⟩ := hblk.eight
      have zf := hblk.frozen
      have hb2l := hblk.lt
      have HBLK := Lib.hid hblk
      have f7 := (((Blk.new w _ _).alloc _).on hb2).cell 7
      clear hblk hfd hp hy hk hc hle
      go_wp2_with fail
      refine bodyPost_ret (results_row (l := [_, _, _, _, _, _, _, _]) rfl _ _ _ rfl (HBLK.out.set8 _ _ _ _ _ _ _ _) Tryd.underlying28 rfl (by kernel_rfl)) rfl ?_
      have hbb := below_set8 hb (g := w.heap.size + 1) (by omega) (.int .i64 k1) (.bool b1) (.bool n1) (.string ⟨g1.toArray⟩) (.int .i64 x1) (.string ⟨s1.toArray⟩) (.slice A1 l1 p1) (.slice B1 m1 d1)
      exact FindPostC.yes (HF.out.trans HN.out) HY.out hbb
  · have t1 : (k == 5) = false := by simpa using hk
    have t2 : (k != 5) = true := by simpa using hk
    have HF := Lib.hid (show (Vl.mk k b n s l m).find key = none from by simp [Vl.find, hk])
    have hblk := Blk.new2 w (.cells #[.int .i64 k, .bool b, .bool n.neg, .string ⟨n.digits.toArray⟩, .int .i64 n.exp, .string ⟨s.toArray⟩, .slice A l.length e, .slice B m.length d] 28) 28 #[.int .i64 0, .bool false, .bool false, .string ⟨#[]⟩, .int .i64 0, .string ⟨#[]⟩, .slice none 0 0, .slice none 0 0]
    have HBLK := Lib.hid hblk
    clear hk hr hblk
    unfold maxLen at q2 q4
    go_enter Tryd.func35, Tryd.ntmps35
    go_wp2_with fail
    refine bodyPost_ret (results_row (l := [_, _, _, _, _, _, _, _]) rfl _ _ _ rfl HBLK.out Tryd.underlying28 rfl (by kernel_rfl)) rfl ?_
    exact FindPostC.no HF.out HB2

end Go.Proofs.YtkhplaknogalgaaDoor

/- The walks of layer 6 (ptr): the program's Get. -/
namespace Go.Proofs.YtkhplaknogalgaaDoor
open Go.RowKit Pt Js

/-- What the program's Get tells: the value, or ErrNone. -/
def PGetPost (c : Cl) (r : Option Vl) (w : World) (e : Ending) (w' : World) : Prop :=
  Below w.heap.size w w' ∧ ((∃ u y, r = some u ∧ e = .returned (.tuple #[y, .nilIface]) ∧ u.In c y) ∨ (r = none ∧ ∃ y, e = .returned (.tuple #[y, .iface 56 (.int .i64 6)]) ∧ Ps.mkN.In c y))

/-- What the region of within leaves. -/
def FoundG (c : Cl) (r : Option Vl) (rb : Bool) (j : Nat) (w2 : World) (v8 v9 v12 : Value) (wc : World) : Prop :=
  ∃ (p8 : Nat) (cs : Array Value), v12 = .int .i64 j ∧ v8 = .pointer (some ⟨p8, 0, none⟩) ∧ v9 = .bool rb ∧ Blk wc p8 28 cs ∧ (r.getD none0).In c (.agg cs) ∧ w2.heap.size ≤ p8 ∧ Below w2.heap.size w2 wc

/-- How far Get has come. -/
structure Getting0 (M : Vl → Prop) (c : Cl) (v : Vl) (ns : List (List UInt8)) (w : World) (j : Nat) (u : Vl) (cs : Array Value) (wr : World) : Prop where
  hj : j ≤ ns.length
  blk : Blk wr w.heap.size 28 cs
  zero : Blk wr (w.heap.size + 1) 28 #[.int .i64 0, .bool false, .bool false, .string ⟨#[]⟩, .int .i64 0, .string ⟨#[]⟩, .slice none 0 0, .slice none 0 0]
  lies : u.In c (.agg cs)
  res : get v ns = get u (ns.drop j)
  may : M u
  size : u.size ≤ 1000000
  below : Below w.heap.size w wr
def Getting (M : Vl → Prop) (c : Cl) (v : Vl) (ns : List (List UInt8)) (w : World) (v12 : Value) (wr : World) : Prop :=
  ∃ (j : Nat) (u : Vl) (cs : Array Value), v12 = .int .i64 j ∧ Getting0 M c v ns w j u cs wr

end Go.Proofs.YtkhplaknogalgaaDoor


