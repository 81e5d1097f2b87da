/- Kf: Kf Kg, in one text. -/
import Derived.Test.YtjjenpmahmbafaaGreatDoorKa
import Derived.Test.YtjjenpmahmbafaaGreatDoorPw
import Derived.Test.YtjjenpmahmbafaaGreatDoorMg
namespace Go.Proofs.YtjjenpmahmbafaaGreatDoor.Pt
open Js

def stepV : Vl → List UInt8 → Option Vl
  | .mk k b n s l m, nm => if k = 4 then (if (index nm l.length false).2 = true then l[(index nm l.length false).1]? else none) else (Vl.mk k b n s l m).find nm
theorem stepV_mk (k : Int) (b : Bool) (n : Nm.Num) (s : List UInt8) (l : List Vl) (m : List Js.Mem) (nm : List UInt8) :
    stepV (.mk k b n s l m) nm = if k = 4 then (if (index nm l.length false).2 = true then l[(index nm l.length false).1]? else none) else (Vl.mk k b n s l m).find nm := rfl
theorem get_step (v : Vl) (nm : List UInt8) (ns : List (List UInt8)) : get v (nm :: ns) = match stepV v nm with
    | some x => get x ns
    | none => none := by
  obtain ⟨k, b, n, s, l, m⟩ := v
  rw [get_cons, stepV_mk]
  by_cases hk : k = 4
  · rw [if_pos hk, if_pos hk]
    by_cases hi : (index nm l.length false).2 = true
    · rw [if_pos hi]
      cases l[(index nm l.length false).1]? with
      | none => rfl
      | some x => simp only; rw [if_pos hi]
    · rw [if_neg hi]
      cases l[(index nm l.length false).1]? with
      | none => rfl
      | some x => simp only; rw [if_neg hi]
  · rw [if_neg hk, if_neg hk]; rfl
def Rises : Vl → Prop
  | .mk _ _ _ _ _ m => rises (m.map (·.1)) = true
structure Steps (M : Vl → Prop) : Prop where
  rises : ∀ v, M v → Rises v
  step : ∀ v u nm, M v → stepV v nm = some u → M u ∧ u.size ≤ v.size
end Go.Proofs.YtjjenpmahmbafaaGreatDoor.Pt
namespace Go.Proofs.YtjjenpmahmbafaaGreatDoor
open Go.RowKit Pt Js

set_option linter.unusedVariables false in
set_option linter.unusedSimpArgs false in
set_option maxRecDepth 100000 in
set_option maxHeartbeats 2000000 in
theorem findC_any (c : Cl) (v : Vl) (key : List UInt8) (x : Value) (w : World) (hv : Rises v) (hsz : v.size ≤ 1000000000000) (hcl : c.le w.cell?) (hx : v.In c x) :
    Calls Tryz.prog 98 #[x, .string ⟨key.toArray⟩] w (FindPostC c (v.find key) w) := by
  obtain ⟨k, b, n, s, l, m⟩ := v
  obtain ⟨A, e, B, d, rfl, q1, q2, q3, q4, q5, q6⟩ := In.form hx
  have hr : rises (m.map (·.1)) = true := hv
  have H6 := Lib.hid (show SlM c B m from q6)
  have HCL := Lib.hid hcl
  have hml : m.length ≤ 1000000000000 := by have := sizeM_len m; simp only [Vl.size] at hsz; omega
  have HB2 : Below w.heap.size w _ := (((Below.refl _ _).alloc (Nat.le_refl _) (.cells #[.int .i64 k, .bool b, .bool n.neg, .string ⟨n.digits.toArray⟩, .int .i64 n.exp, .string ⟨s.toArray⟩, .slice A l.length e, .slice B m.length d] 28)).alloc (by simp) (.cells #[.int .i64 0, .bool false, .bool false, .string ⟨#[]⟩, .int .i64 0, .string ⟨#[]⟩, .slice none 0 0, .slice none 0 0] 28))
  clear q5 q6 hx hv hcl
  by_cases hk : k = 5
  · subst hk
    have HS := Lib.hid (fun W hs => search_any m key B d W hr q3 q4 hml hs)
    have HSL := Lib.hid (H6.out.keep (HCL.out.trans (le_below HB2)))
    have HF := Lib.hid (show (Vl.mk 5 b n s l m).find key = Js.find m key from by simp [Vl.find])
    have HR := Lib.hid hr
    clear hr
    unfold maxLen at q2 q4
    go_enter Tryz.func98, Tryz.ntmps98
    go_wp2_with fail
    refine (HS.out _ HSL.out).mono ?_
    rintro e' w2 ⟨i, bb, rfl, hfd, hb2⟩
    have hb := HB2.trans (hb2.mono (by simp; omega))
    cases bb with
    | false =>
      have HN := Lib.hid (find_none (hfd.2.2 rfl))
      clear hfd
      have hblk := (Blk.new2 _ _ _ _).on hb2
      obtain ⟨z0, z1, z2, z3, z4, z5, z6, z7⟩ := hblk.eight
      have zf := hblk.frozen
      have hb2l := hblk.lt
      have HBLK := Lib.hid hblk
      clear hblk
      go_wp2_with fail
      refine bodyPost_ret (results_row (l := [_, _, _, _, _, _, _, _]) rfl _ _ _ rfl (HBLK.out.set8 _ _ _ _ _ _ _ _) Tryz.underlying28 rfl (by kernel_rfl)) rfl ?_
      exact FindPostC.no (HF.out.trans HN.out) (below_set8 hb (by omega) _ _ _ _ _ _ _ _)
    | true =>
      obtain ⟨p, hp, rfl⟩ := hfd.2.1 rfl
      have HN := Lib.hid (find_at HR.out hp)
      obtain ⟨g, o, y, rfl, hy, hk, hc⟩ := H6.out i _ hp
      have hi : i < m.length := (List.getElem?_eq_some_iff.1 hp).1
      obtain ⟨k1, b1, n1, g1, x1, s1, A1, l1, p1, B1, m1, d1, rfl⟩ := In.cells hy
      have hle : Cl.le w.cell? w2.cell? := le_below hb
      obtain ⟨e0, e1, e2, e3, e4, e5, e6, e7⟩ := (hc.keep (HCL.out.trans hle)).eight
      have hgl : g < w2.heap.size := World.block_lt_of_cell? w2 _ e0
      have hgw : g < w.heap.size := World.block_lt_of_cell? w _ (HCL.out _ _ hk)
      have HY := Lib.hid hy
      have hblk := (Blk.new2 _ _ _ _).on hb2
      obtain ⟨z0, z1, z2, z3, z4, z5, z6, z7⟩ := hblk.eight
      have zf := hblk.frozen
      have hb2l := hblk.lt
      have HBLK := Lib.hid hblk
      have f7 := (((Blk.new w _ _).alloc _).on hb2).cell 7
      clear hblk hfd hp hy hk hc hle
      go_wp2_with fail
      refine bodyPost_ret (results_row (l := [_, _, _, _, _, _, _, _]) rfl _ _ _ rfl (HBLK.out.set8 _ _ _ _ _ _ _ _) Tryz.underlying28 rfl (by kernel_rfl)) rfl ?_
      have hbb := below_set8 hb (g := w.heap.size + 1) (by omega) (.int .i64 k1) (.bool b1) (.bool n1) (.string ⟨g1.toArray⟩) (.int .i64 x1) (.string ⟨s1.toArray⟩) (.slice A1 l1 p1) (.slice B1 m1 d1)
      exact FindPostC.yes (HF.out.trans HN.out) HY.out hbb
  · have t1 : (k == 5) = false := by simpa using hk
    have t2 : (k != 5) = true := by simpa using hk
    have HF := Lib.hid (show (Vl.mk k b n s l m).find key = none from by simp [Vl.find, hk])
    have hblk := Blk.new2 w (.cells #[.int .i64 k, .bool b, .bool n.neg, .string ⟨n.digits.toArray⟩, .int .i64 n.exp, .string ⟨s.toArray⟩, .slice A l.length e, .slice B m.length d] 28) 28 #[.int .i64 0, .bool false, .bool false, .string ⟨#[]⟩, .int .i64 0, .string ⟨#[]⟩, .slice none 0 0, .slice none 0 0]
    have HBLK := Lib.hid hblk
    clear hk hr hblk
    unfold maxLen at q2 q4
    go_enter Tryz.func98, Tryz.ntmps98
    go_wp2_with fail
    refine bodyPost_ret (results_row (l := [_, _, _, _, _, _, _, _]) rfl _ _ _ rfl HBLK.out Tryz.underlying28 rfl (by kernel_rfl)) rfl ?_
    exact FindPostC.no HF.out HB2

set_option linter.unusedVariables false in
set_option linter.unusedSimpArgs false in
set_option maxRecDepth 100000 in
set_option maxHeartbeats 2000000 in
theorem within_any (c : Cl) (v : Vl) (nm : List UInt8) (x : Value) (w : World) (hv : Rises v) (hsz : v.size ≤ 1000000) (hnm : nm.length ≤ 1000000) (hcl : c.le w.cell?) (hx : v.In c x) :
    Calls Tryz.prog 81 #[x, .string ⟨nm.toArray⟩] w (FindPostC c (stepV v nm) w) := by
  have HFI := Lib.hid (fun W (h : Below w.heap.size w W) => findC_any c v nm x W hv (by omega) (hcl.trans (le_below h)) hx)
  obtain ⟨k, b, n, s, l, m⟩ := v
  obtain ⟨A, e, B, d, rfl, q1, q2, q3, q4, q5, q6⟩ := In.form hx
  have HCL := Lib.hid hcl
  have H5 := Lib.hid (show SlL c A l from q5)
  have HB2 : Below w.heap.size w _ := below_two0 w (.cells #[.int .i64 k, .bool b, .bool n.neg, .string ⟨n.digits.toArray⟩, .int .i64 n.exp, .string ⟨s.toArray⟩, .slice A l.length e, .slice B m.length d] 28) (.cells #[.int .i64 0, .bool false, .bool false, .string ⟨#[]⟩, .int .i64 0, .string ⟨#[]⟩, .slice none 0 0, .slice none 0 0] 28)
  have HBB := Lib.hid HB2
  have HZ := Lib.hid (Blk.new2 w (.cells #[.int .i64 k, .bool b, .bool n.neg, .string ⟨n.digits.toArray⟩, .int .i64 n.exp, .string ⟨s.toArray⟩, .slice A l.length e, .slice B m.length d] 28) 28 #[.int .i64 0, .bool false, .bool false, .string ⟨#[]⟩, .int .i64 0, .string ⟨#[]⟩, .slice none 0 0, .slice none 0 0])
  have HBX := Lib.hid ((Blk.new w 28 #[.int .i64 k, .bool b, .bool n.neg, .string ⟨n.digits.toArray⟩, .int .i64 n.exp, .string ⟨s.toArray⟩, .slice A l.length e, .slice B m.length d]).alloc (.cells #[.int .i64 0, .bool false, .bool false, .string ⟨#[]⟩, .int .i64 0, .string ⟨#[]⟩, .slice none 0 0, .slice none 0 0] 28))
  have hll : l.length ≤ 1000000 := by have := sizeL_len l; simp only [Vl.size] at hsz; omega
  clear q5 q6 hx hv hcl HB2
  unfold maxLen at q2 q4
  by_cases hk : k = 4
  · subst hk
    have HIX := Lib.hid (fun W => index_any nm l.length false W (by omega) (by omega))
    obtain ⟨q, hq⟩ : ∃ q, index nm l.length false = q := ⟨_, rfl⟩
    obtain ⟨qi, qb⟩ := q
    have HQ := Lib.hid hq
    rw [hq] at HIX
    simp only at HIX
    clear hq
    have HST := Lib.hid (show stepV (.mk 4 b n s l m) nm = (if qb = true then l[qi]? else none) by rw [stepV_mk, if_pos rfl, HQ.out])
    go_enter Tryz.func81, Tryz.ntmps81
    go_wp2_with fail
    refine (HIX.out _).mono ?_
    rintro e' w2 ⟨rfl, hb2⟩
    have HB3 := Lib.hid (HBB.out.trans (hb2.mono HBB.out.size))
    have hz := HZ.out.on hb2
    have hbx := HBX.out.on hb2
    have HZ2 := Lib.hid hz
    obtain ⟨z0, z1, z2, z3, z4, z5, z6, z7⟩ := hz.eight
    have zf := hz.frozen
    have zl := hz.lt
    obtain ⟨a0, a1, a2, a3, a4, a5, a6, a7⟩ := hbx.eight
    clear hz hbx hb2
    cases qb with
    | false =>
      have HN := Lib.hid (show stepV (.mk 4 b n s l m) nm = none from HST.out)
      go_wp2_with fail
      refine bodyPost_ret (results_row (l := [_, _, _, _, _, _, _, _]) rfl _ _ _ rfl (HZ2.out.set8 _ _ _ _ _ _ _ _) Tryz.underlying28 rfl (by kernel_rfl)) rfl ?_
      exact FindPostC.no HN.out (below_set8 HB3.out (by omega) _ _ _ _ _ _ _ _)
    | true =>
      have hlt := index_lt HQ.out
      have HN := Lib.hid (show stepV (.mk 4 b n s l m) nm = some l[qi] by rw [HST.out, if_pos rfl, List.getElem?_eq_getElem hlt])
      obtain ⟨g, o, y, rfl, hy, hc⟩ := H5.out qi _ (List.getElem?_eq_getElem hlt)
      obtain ⟨j1, j2, j3, j4, j5, j6, j7, j8, j9, ja, jb, jc, rfl⟩ := In.cells hy
      have HY := Lib.hid hy
      obtain ⟨e0, e1, e2, e3, e4, e5, e6, e7⟩ := (hc.keep (HCL.out.trans (le_below HB3.out))).eight
      have hgw : g < w.heap.size := by
        have := (hc.keep HCL.out).eight.1
        exact World.block_lt_of_cell? w _ this
      clear hc hy
      generalize l[qi] = u at *
      go_wp2_with fail
      refine bodyPost_ret (results_row (l := [_, _, _, _, _, _, _, _]) rfl _ _ _ rfl (HZ2.out.set8 _ _ _ _ _ _ _ _) Tryz.underlying28 rfl (by kernel_rfl)) rfl ?_
      exact FindPostC.yes HN.out HY.out (below_set8 HB3.out (by omega) _ _ _ _ _ _ _ _)
  · have t1 : (k == 4) = false := by simpa using hk
    have t2 : (k != 4) = true := by simpa using hk
    have HN := Lib.hid (show stepV (.mk k b n s l m) nm = (Vl.mk k b n s l m).find nm by rw [stepV_mk, if_neg hk])
    generalize (Vl.mk k b n s l m).find nm = r at *
    clear hk
    go_enter Tryz.func81, Tryz.ntmps81
    go_wp2_with fail
    refine (HFI.out _ HBB.out).mono ?_
    rintro e' w2 ⟨y, rfl, hy, hb2⟩
    obtain ⟨j1, j2, j3, j4, j5, j6, j7, j8, j9, ja, jb, jc, rfl⟩ := In.cells hy
    have HY := Lib.hid hy
    have HB3 := Lib.hid (HBB.out.trans (hb2.mono HBB.out.size))
    have hz := HZ.out.on hb2
    have HZ2 := Lib.hid hz
    obtain ⟨z0, z1, z2, z3, z4, z5, z6, z7⟩ := hz.eight
    have zf := hz.frozen
    have zl := hz.lt
    clear hz hb2 hy
    go_wp2_with fail
    refine bodyPost_ret (results_row (l := [_, _, _, _, _, _, _, _]) rfl _ _ _ rfl (HZ2.out.set8 _ _ _ _ _ _ _ _) Tryz.underlying28 rfl (by kernel_rfl)) rfl ?_
    rw [HN.out]
    exact ⟨_, rfl, HY.out, below_set8 HB3.out (by omega) _ _ _ _ _ _ _ _⟩

end Go.Proofs.YtjjenpmahmbafaaGreatDoor

namespace Go.Proofs.YtjjenpmahmbafaaGreatDoor
open Go.RowKit Pt Js

def PGetPost (c : Cl) (r : Option Vl) (w : World) (e : Ending) (w' : World) : Prop :=
  Below w.heap.size w w' ∧ ((∃ u y, r = some u ∧ e = .returned (.tuple #[y, .nilIface]) ∧ u.In c y) ∨ (r = none ∧ ∃ y, e = .returned (.tuple #[y, .iface 64 (.int .i64 6)]) ∧ Ps.mkN.In c y))

structure Getting0 (M : Vl → Prop) (c : Cl) (v : Vl) (ns : List (List UInt8)) (w : World) (j : Nat) (u : Vl) (cs : Array Value) (wr : World) : Prop where
  hj : j ≤ ns.length
  blk : Blk wr w.heap.size 28 cs
  zero : Blk wr (w.heap.size + 1) 28 #[.int .i64 0, .bool false, .bool false, .string ⟨#[]⟩, .int .i64 0, .string ⟨#[]⟩, .slice none 0 0, .slice none 0 0]
  lies : u.In c (.agg cs)
  res : get v ns = get u (ns.drop j)
  may : M u
  size : u.size ≤ 1000000
  below : Below w.heap.size w wr
def Getting (M : Vl → Prop) (c : Cl) (v : Vl) (ns : List (List UInt8)) (w : World) (v12 : Value) (wr : World) : Prop :=
  ∃ (j : Nat) (u : Vl) (cs : Array Value), v12 = .int .i64 j ∧ Getting0 M c v ns w j u cs wr

set_option linter.unusedVariables false in
set_option linter.unusedSimpArgs false in
set_option maxRecDepth 100000 in
set_option maxHeartbeats 2000000 in
theorem ptrGetM_any (M : Vl → Prop) (hM : Pt.Steps M) (c : Cl) (v : Vl) (ns : List (List UInt8)) (x : Value) (A : Option Addr) (e : Nat) (w : World) (hv : M v) (hsz : v.size ≤ 1000000) (hcl : c.le w.cell?) (hx : v.In c x) (hs : Strs w.cell? A ns) (he : ns.length ≤ e) (hm : e ≤ maxLen) (hns : ∀ n ∈ ns, n.length ≤ 1000000) (hl : ns.length ≤ 1000000) :
    Calls Tryz.prog 65 #[x, .slice A ns.length e] w (PGetPost c (get v ns) w) := by
  obtain ⟨k1, b1, n1, g1, x1, s1, A1, l1, p1, B1, m1, d1, rfl⟩ := In.cells hx
  have hb0 : Below w.heap.size w ((w.alloc (.cells #[.int .i64 k1, .bool b1, .bool n1, .string ⟨g1.toArray⟩, .int .i64 x1, .string ⟨s1.toArray⟩, .slice A1 l1 p1, .slice B1 m1 d1] 28)).alloc (.cells #[.int .i64 0, .bool false, .bool false, .string ⟨#[]⟩, .int .i64 0, .string ⟨#[]⟩, .slice none 0 0, .slice none 0 0] 28)) := below_two0 w _ _
  have HST := Lib.hid (show Getting0 M c v ns w 0 v _ _ from ⟨Nat.zero_le _, (Blk.new w 28 #[.int .i64 k1, .bool b1, .bool n1, .string ⟨g1.toArray⟩, .int .i64 x1, .string ⟨s1.toArray⟩, .slice A1 l1 p1, .slice B1 m1 d1]).alloc (.cells #[.int .i64 0, .bool false, .bool false, .string ⟨#[]⟩, .int .i64 0, .string ⟨#[]⟩, .slice none 0 0, .slice none 0 0] 28),
    Blk.new2 w _ _ _, hx, rfl, hv, hsz, hb0⟩)
  have HMM := Lib.hid hM
  have HCL := Lib.hid hcl
  have HS := Lib.hid hs
  have HNS := Lib.hid hns
  unfold maxLen at hm
  clear hb0 hcl hs hns hx hv hsz hM
  go_enter Tryz.func65, Tryz.ntmps65
  go_wp2_with fail
  go_loopw [12] (Getting M c v ns w) (fun i _ => ns.length - (intOf i).toNat)
  case atStart => exact ⟨0, v, #[.int .i64 k1, .bool b1, .bool n1, .string ⟨g1.toArray⟩, .int .i64 x1, .string ⟨s1.toArray⟩, .slice A1 l1 p1, .slice B1 m1 d1], rfl, HST.out⟩
  case round =>
    clear HST
    obtain ⟨j, u, cs, rfl, hG⟩ := hrel
    have HG := Lib.hid hG
    have hj := hG.hj
    obtain ⟨k1, b1, n1, g1, x1, s1, A1, l1, p1, B1, m1, d1, hcs⟩ := In.cells hG.lies
    injection hcs with hcs
    subst hcs
    obtain ⟨a0, a1, a2, a3, a4, a5, a6, a7⟩ := hG.blk.eight
    have af := hG.blk.frozen
    have al := hG.blk.lt
    obtain ⟨z0, z1, z2, z3, z4, z5, z6, z7⟩ := hG.zero.eight
    have zf := hG.zero.frozen
    have zl := hG.zero.lt
    clear hG
    by_cases hlt : j < ns.length
    · obtain ⟨g0, o0, rfl, hc0⟩ := HS.out j _ (List.getElem?_eq_getElem hlt)
      have hc1 := le_below HG.out.below _ _ hc0
      have hgl := World.block_lt_of_cell? _ _ hc1
      have hg0 := World.block_lt_of_cell? _ _ hc0
      have HRES := Lib.hid (show get v ns = match stepV u ns[j] with | some y => get y (ns.drop (j + 1)) | none => none by
        rw [HG.out.res, List.drop_eq_getElem_cons hlt, get_step]; try rfl)
      have HNL := Lib.hid (HNS.out _ (List.getElem_mem hlt))
      have HMAY := Lib.hid (fun (y : Vl) (h : stepV u (ns[j]'hlt) = some y) => HMM.out.step _ _ _ HG.out.may h)
      have HWI := Lib.hid (fun W (h : Below wr.heap.size wr W) => within_any c u ns[j] _ W (HMM.out.rises _ HG.out.may) HG.out.size HNL.out (HCL.out.trans ((le_below HG.out.below).trans (le_below h))) HG.out.lies)
      generalize ns[j] = nm at *
      generalize stepV u nm = r at *
      clear hc0
      have HFX := Lib.hid (show ∀ W, Below wr.heap.size wr W → Calls Tryz.prog 81 #[_, .string ⟨nm.toArray⟩] W (fun e w' => ∃ y, e = .returned (.tuple #[y, .bool r.isSome]) ∧ (r.getD none0).In c y ∧ Below wr.heap.size wr w' ∧ Below W.heap.size W w') from fun W h => (HWI.out W h).mono (by
        rintro e9 w9 ⟨y, h1, h2, h3⟩
        exact ⟨y, h1, h2, h.trans (h3.mono h.size), h3⟩))
      clear HWI
      generalize hrb : r.isSome = rb at *
      have HRB := Lib.hid hrb
      clear hrb
      go_wp2_with fail
      refine (HFX.out _ (Below.refl _ _)).mono ?_
      rintro e9 w9 ⟨y9, rfl, hin, hb9, -⟩
      obtain ⟨j1, j2, j3, j4, j5, j6, j7, j8, j9, ja, jb, jc, rfl⟩ := In.cells hin
      have HIN := Lib.hid hin
      have hsw := hb9.size
      have hbw0 := HG.out.below.trans (hb9.mono HG.out.below.size)
      have HBW := Lib.hid (hbw0.alloc hbw0.size (.cells #[.int .i64 j1, .bool j2, .bool j3, .string ⟨j4.toArray⟩, .int .i64 j5, .string ⟨j6.toArray⟩, .slice j7 j8 j9, .slice ja jb jc] 28))
      have HA := Lib.hid ((HG.out.blk.on hb9).alloc (.cells #[.int .i64 j1, .bool j2, .bool j3, .string ⟨j4.toArray⟩, .int .i64 j5, .string ⟨j6.toArray⟩, .slice j7 j8 j9, .slice ja jb jc] 28))
      have HZ := Lib.hid ((HG.out.zero.on hb9).alloc (.cells #[.int .i64 j1, .bool j2, .bool j3, .string ⟨j4.toArray⟩, .int .i64 j5, .string ⟨j6.toArray⟩, .slice j7 j8 j9, .slice ja jb jc] 28))
      have HN := Lib.hid (Blk.new w9 28 #[.int .i64 j1, .bool j2, .bool j3, .string ⟨j4.toArray⟩, .int .i64 j5, .string ⟨j6.toArray⟩, .slice j7 j8 j9, .slice ja jb jc])
      clear a0 a1 a2 a3 a4 a5 a6 a7 af z0 z1 z2 z3 z4 z5 z6 z7 zf hb9 hbw0 hc1 hin al zl
      have hx9 : w9.heap.size ≠ w.heap.size ∧ w9.heap.size ≠ w.heap.size + 1 := by have := HG.out.zero.lt; omega
      go_upto_region 5 with (fail)
      generalize w9.alloc (.cells #[.int .i64 j1, .bool j2, .bool j3, .string ⟨j4.toArray⟩, .int .i64 j5, .string ⟨j6.toArray⟩, .slice j7 j8 j9, .slice ja jb jc] 28) = w10 at *
      generalize w9.heap.size = p8 at *
      cases rb with
      | false =>
        cases r with
        | some y => exact absurd HRB.out (by simp)
        | none =>
          have HR2 := Lib.hid (show get v ns = none from HRES.out)
          obtain ⟨z0, z1, z2, z3, z4, z5, z6, z7⟩ := HZ.out.eight
          have zf := HZ.out.frozen
          have zl := HZ.out.lt
          go_wp2_with fail
          refine bodyPost_ret (results_row (l := [_, _, _, _, _, _, _, _]) rfl _ _ _ rfl (HZ.out.set8 _ _ _ _ _ _ _ _) Tryz.underlying28 rfl (by kernel_rfl)) rfl ?_
          exact ⟨below_set8 HBW.out (by omega) _ _ _ _ _ _ _ _, .inr ⟨HR2.out, _, rfl, leaf_in _ 0 false Nm.Num.zero []⟩⟩
      | true =>
        cases r with
        | none => exact absurd HRB.out (by simp)
        | some y =>
          have HR2 := Lib.hid (show get v ns = get y (ns.drop (j + 1)) from HRES.out)
          have HY := Lib.hid (show y.In c _ from HIN.out)
          obtain ⟨e0, e1, e2, e3, e4, e5, e6, e7⟩ := HN.out.eight
          obtain ⟨a0, a1, a2, a3, a4, a5, a6, a7⟩ := HA.out.eight
          have af := HA.out.frozen
          have al := HA.out.lt
          have pl := HN.out.lt
          have HM := Lib.hid (HMAY.out y rfl)
          have hn1 : w.heap.size + 1 ≠ w.heap.size := by omega
          go_wp2_with fail
          go_roundw
          case rel => exact ⟨j + 1, y, _, by go_num, ⟨by omega, HA.out.set8 _ _ _ _ _ _ _ _, HZ.out.set8o hn1 _ _ _ _ _ _ _ _, HY.out, HR2.out, HM.out.1, by have := HM.out.2; have := HG.out.size; omega, below_set8 HBW.out (Nat.le_refl _) _ _ _ _ _ _ _ _⟩⟩
          case measure => simp [intOf]; omega
    · obtain rfl : j = ns.length := by omega
      have HR2 := Lib.hid (show get v ns = some u by rw [HG.out.res, List.drop_length]; cases u; rfl)
      go_wp2_with fail
      refine bodyPost_ret (results_row (l := [_, _, _, _, _, _, _, _]) rfl _ _ _ rfl (HG.out.zero.set8 _ _ _ _ _ _ _ _) Tryz.underlying28 rfl (by kernel_rfl)) rfl ?_
      exact ⟨below_set8 HG.out.below (by omega) _ _ _ _ _ _ _ _, .inl ⟨u, _, HR2.out, rfl, HG.out.lies⟩⟩

end Go.Proofs.YtjjenpmahmbafaaGreatDoor


