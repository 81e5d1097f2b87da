/- The walks of layer 6 (ptr): the program's Get. -/
import Derived.Test.YtjdkfkjkmjodlaaDoorKf
namespace Go.Proofs.YtjdkfkjkmjodlaaDoor
open Go.RowKit Pt Js

/-- What the program's Get tells: the value, or ErrNone. -/
def PGetPost (c : Cl) (r : Option Vl) (w : World) (e : Ending) (w' : World) : Prop :=
  Below w.heap.size w w' ∧ ((∃ u y, r = some u ∧ e = .returned (.tuple #[y, .nilIface]) ∧ u.In c y) ∨ (r = none ∧ ∃ y, e = .returned (.tuple #[y, .iface 53 (.int .i64 6)]) ∧ Ps.mkN.In c y))

/-- What the region of within leaves. -/
def FoundG (c : Cl) (r : Option Vl) (rb : Bool) (j : Nat) (w2 : World) (v8 v9 v12 : Value) (wc : World) : Prop :=
  ∃ (p8 : Nat) (cs : Array Value), v12 = .int .i64 j ∧ v8 = .pointer (some ⟨p8, 0, none⟩) ∧ v9 = .bool rb ∧ Blk wc p8 41 cs ∧ (r.getD none0).In c (.agg cs) ∧ w2.heap.size ≤ p8 ∧ Below w2.heap.size w2 wc

/-- How far Get has come. -/
structure Getting0 (c : Cl) (v : Vl) (ns : List (List UInt8)) (w : World) (j : Nat) (u : Vl) (cs : Array Value) (wr : World) : Prop where
  hj : j ≤ ns.length
  blk : Blk wr w.heap.size 41 cs
  zero : Blk wr (w.heap.size + 1) 41 #[.int .i64 0, .bool false, .bool false, .string ⟨#[]⟩, .int .i64 0, .string ⟨#[]⟩, .slice none 0 0, .slice none 0 0]
  lies : u.In c (.agg cs)
  res : get v ns = get u (ns.drop j)
  may : u.may = true
  size : u.size ≤ 1000000
  below : Below w.heap.size w wr
def Getting (c : Cl) (v : Vl) (ns : List (List UInt8)) (w : World) (v12 : Value) (wr : World) : Prop :=
  ∃ (j : Nat) (u : Vl) (cs : Array Value), v12 = .int .i64 j ∧ Getting0 c v ns w j u cs wr

set_option linter.unusedVariables false in
set_option linter.unusedSimpArgs false in
set_option maxRecDepth 100000 in
set_option maxHeartbeats 2000000 in
theorem ptrGet_any (c : Cl) (v : Vl) (ns : List (List UInt8)) (x : Value) (A : Option Addr) (e : Nat) (w : World) (hv : v.may = true) (hsz : v.size ≤ 1000000) (hcl : c.le w.cell?) (hx : v.In c x) (hs : Strs w.cell? A ns) (he : ns.length ≤ e) (hm : e ≤ maxLen) (hns : ∀ n ∈ ns, n.length ≤ 1000000) (hl : ns.length ≤ 1000000) :
    Calls Tryd.prog 15 #[x, .slice A ns.length e] w (PGetPost c (get v ns) w) := by
  obtain ⟨k1, b1, n1, g1, x1, s1, A1, l1, p1, B1, m1, d1, rfl⟩ := In.cells hx
  have hb0 : Below w.heap.size w ((w.alloc (.cells #[.int .i64 k1, .bool b1, .bool n1, .string ⟨g1.toArray⟩, .int .i64 x1, .string ⟨s1.toArray⟩, .slice A1 l1 p1, .slice B1 m1 d1] 41)).alloc (.cells #[.int .i64 0, .bool false, .bool false, .string ⟨#[]⟩, .int .i64 0, .string ⟨#[]⟩, .slice none 0 0, .slice none 0 0] 41)) := below_two0 w _ _
  have HST := Lib.hid (show Getting0 c v ns w 0 v _ _ from ⟨Nat.zero_le _, (Blk.new w 41 #[.int .i64 k1, .bool b1, .bool n1, .string ⟨g1.toArray⟩, .int .i64 x1, .string ⟨s1.toArray⟩, .slice A1 l1 p1, .slice B1 m1 d1]).alloc (.cells #[.int .i64 0, .bool false, .bool false, .string ⟨#[]⟩, .int .i64 0, .string ⟨#[]⟩, .slice none 0 0, .slice none 0 0] 41),
    Blk.new2 w _ _ _, hx, rfl, hv, hsz, hb0⟩)
  have HCL := Lib.hid hcl
  have HS := Lib.hid hs
  have HNS := Lib.hid hns
  unfold maxLen at hm
  clear hb0 hcl hs hns hx hv hsz
  go_enter Tryd.func15, Tryd.ntmps15
  go_wp2_with fail
  go_loopw [12] (Getting c v ns w) (fun i _ => ns.length - (intOf i).toNat)
  case atStart => exact ⟨0, v, #[.int .i64 k1, .bool b1, .bool n1, .string ⟨g1.toArray⟩, .int .i64 x1, .string ⟨s1.toArray⟩, .slice A1 l1 p1, .slice B1 m1 d1], rfl, HST.out⟩
  case round =>
    clear HST
    obtain ⟨j, u, cs, rfl, hG⟩ := hrel
    have HG := Lib.hid hG
    have hj := hG.hj
    obtain ⟨k1, b1, n1, g1, x1, s1, A1, l1, p1, B1, m1, d1, hcs⟩ := In.cells hG.lies
    injection hcs with hcs
    subst hcs
    obtain ⟨a0, a1, a2, a3, a4, a5, a6, a7⟩ := hG.blk.eight
    have af := hG.blk.frozen
    have al := hG.blk.lt
    obtain ⟨z0, z1, z2, z3, z4, z5, z6, z7⟩ := hG.zero.eight
    have zf := hG.zero.frozen
    have zl := hG.zero.lt
    clear hG
    by_cases hlt : j < ns.length
    · obtain ⟨g0, o0, rfl, hc0⟩ := HS.out j _ (List.getElem?_eq_getElem hlt)
      have hc1 := le_below HG.out.below _ _ hc0
      have hgl := World.block_lt_of_cell? _ _ hc1
      have hg0 := World.block_lt_of_cell? _ _ hc0
      have HRES := Lib.hid (show get v ns = match stepV u ns[j] with | some y => get y (ns.drop (j + 1)) | none => none by
        rw [HG.out.res, List.drop_eq_getElem_cons hlt, get_step]; rfl)
      have HNL := Lib.hid (HNS.out _ (List.getElem_mem hlt))
      have HMAY := Lib.hid (fun (y : Vl) (h : stepV u (ns[j]'hlt) = some y) => step_may HG.out.may h)
      have HWI := Lib.hid (fun W (h : Below wr.heap.size wr W) => within_any c u ns[j] _ W HG.out.may HG.out.size HNL.out (HCL.out.trans ((le_below HG.out.below).trans (le_below h))) HG.out.lies)
      generalize ns[j] = nm at *
      generalize stepV u nm = r at *
      clear hc0
      have HFX := Lib.hid (show ∀ W, Below wr.heap.size wr W → Calls Tryd.prog 29 #[_, .string ⟨nm.toArray⟩] W (fun e w' => ∃ y, e = .returned (.tuple #[y, .bool r.isSome]) ∧ (r.getD none0).In c y ∧ Below wr.heap.size wr w' ∧ Below W.heap.size W w') from fun W h => (HWI.out W h).mono (by
        rintro e9 w9 ⟨y, h1, h2, h3⟩
        exact ⟨y, h1, h2, h.trans (h3.mono h.size), h3⟩))
      clear HWI
      generalize hrb : r.isSome = rb at *
      have HRB := Lib.hid hrb
      clear hrb
      go_wp2_with fail
      refine (HFX.out _ (Below.refl _ _)).mono ?_
      rintro e9 w9 ⟨y9, rfl, hin, hb9, -⟩
      obtain ⟨j1, j2, j3, j4, j5, j6, j7, j8, j9, ja, jb, jc, rfl⟩ := In.cells hin
      have HIN := Lib.hid hin
      have hsw := hb9.size
      have hbw0 := HG.out.below.trans (hb9.mono HG.out.below.size)
      have HBW := Lib.hid (hbw0.alloc hbw0.size (.cells #[.int .i64 j1, .bool j2, .bool j3, .string ⟨j4.toArray⟩, .int .i64 j5, .string ⟨j6.toArray⟩, .slice j7 j8 j9, .slice ja jb jc] 41))
      have HA := Lib.hid ((HG.out.blk.on hb9).alloc (.cells #[.int .i64 j1, .bool j2, .bool j3, .string ⟨j4.toArray⟩, .int .i64 j5, .string ⟨j6.toArray⟩, .slice j7 j8 j9, .slice ja jb jc] 41))
      have HZ := Lib.hid ((HG.out.zero.on hb9).alloc (.cells #[.int .i64 j1, .bool j2, .bool j3, .string ⟨j4.toArray⟩, .int .i64 j5, .string ⟨j6.toArray⟩, .slice j7 j8 j9, .slice ja jb jc] 41))
      have HN := Lib.hid (Blk.new w9 41 #[.int .i64 j1, .bool j2, .bool j3, .string ⟨j4.toArray⟩, .int .i64 j5, .string ⟨j6.toArray⟩, .slice j7 j8 j9, .slice ja jb jc])
      clear a0 a1 a2 a3 a4 a5 a6 a7 af z0 z1 z2 z3 z4 z5 z6 z7 zf hb9 hbw0 hc1 hin al zl
      have hx9 : w9.heap.size ≠ w.heap.size ∧ w9.heap.size ≠ w.heap.size + 1 := by have := HG.out.zero.lt; omega
      go_upto_region 5 with (fail)
      generalize w9.alloc (.cells #[.int .i64 j1, .bool j2, .bool j3, .string ⟨j4.toArray⟩, .int .i64 j5, .string ⟨j6.toArray⟩, .slice j7 j8 j9, .slice ja jb jc] 41) = w10 at *
      generalize w9.heap.size = p8 at *
      cases rb with
      | false =>
        cases r with
        | some y => exact absurd HRB.out (by simp)
        | none =>
          have HR2 := Lib.hid (show get v ns = none from HRES.out)
          obtain ⟨z0, z1, z2, z3, z4, z5, z6, z7⟩ := HZ.out.eight
          have zf := HZ.out.frozen
          have zl := HZ.out.lt
          go_wp2_with fail
          refine bodyPost_ret (results_row (l := [_, _, _, _, _, _, _, _]) rfl _ _ _ rfl (HZ.out.set8 _ _ _ _ _ _ _ _) Tryd.underlying41 rfl (by kernel_rfl)) rfl ?_
          exact ⟨below_set8 HBW.out (by omega) _ _ _ _ _ _ _ _, .inr ⟨HR2.out, _, rfl, leaf_in _ 0 false Nm.Num.zero []⟩⟩
      | true =>
        cases r with
        | none => exact absurd HRB.out (by simp)
        | some y =>
          have HR2 := Lib.hid (show get v ns = get y (ns.drop (j + 1)) from HRES.out)
          have HY := Lib.hid (show y.In c _ from HIN.out)
          obtain ⟨e0, e1, e2, e3, e4, e5, e6, e7⟩ := HN.out.eight
          obtain ⟨a0, a1, a2, a3, a4, a5, a6, a7⟩ := HA.out.eight
          have af := HA.out.frozen
          have al := HA.out.lt
          have pl := HN.out.lt
          have HM := Lib.hid (HMAY.out y rfl)
          have hn1 : w.heap.size + 1 ≠ w.heap.size := by omega
          go_wp2_with fail
          go_roundw
          case rel => exact ⟨j + 1, y, _, by go_num, ⟨by omega, HA.out.set8 _ _ _ _ _ _ _ _, HZ.out.set8o hn1 _ _ _ _ _ _ _ _, HY.out, HR2.out, HM.out.1, by have := HM.out.2; have := HG.out.size; omega, below_set8 HBW.out (Nat.le_refl _) _ _ _ _ _ _ _ _⟩⟩
          case measure => simp [intOf]; omega
    · obtain rfl : j = ns.length := by omega
      have HR2 := Lib.hid (show get v ns = some u by rw [HG.out.res, List.drop_length]; cases u; rfl)
      go_wp2_with fail
      refine bodyPost_ret (results_row (l := [_, _, _, _, _, _, _, _]) rfl _ _ _ rfl (HG.out.zero.set8 _ _ _ _ _ _ _ _) Tryd.underlying41 rfl (by kernel_rfl)) rfl ?_
      exact ⟨below_set8 HG.out.below (by omega) _ _ _ _ _ _ _ _, .inl ⟨u, _, HR2.out, rfl, HG.out.lies⟩⟩

end Go.Proofs.YtjdkfkjkmjodlaaDoor

