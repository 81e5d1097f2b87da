/- Pw: Pw Py Pz, in one text. -/
import Derived.Test.YtlhinefalkfjaaaGreatDoorPq
import Derived.Test.YtlhinefalkfjaaaGreatDoorMr
import Derived.BigQuiet
import Derived.Deep.RegionLaw
namespace Go.Proofs.YtlhinefalkfjaaaGreatDoor
open Go.RowKit Pt Js

theorem get_cons (k : Int) (b : Bool) (n : Nm.Num) (s : List UInt8) (l : List Vl) (m : List Js.Mem) (nm : List UInt8) (ns : List (List UInt8)) : get (.mk k b n s l m) (nm :: ns) =
    if k = 4 then
      (match l[(index nm l.length false).1]? with
      | some x => if (index nm l.length false).2 = true then get x ns else none
      | none => none)
    else match (Vl.mk k b n s l m).find nm with
      | some x => get x ns
      | none => none := by
  rfl
theorem Blk.drewN {w : World} {g : Nat} {t : TypeId} {cs : Array Value} (h : Blk w g t cs) (n : Nat) : Blk (w.drewN n) g t cs := h
theorem sizeL_at {l : List Vl} {i : Nat} (h : i < l.length) : l[i].size ≤ sizeL l := by
  have h1 := sizeL_take l i h
  have h2 := sizeL_le l (i + 1)
  omega
def GetPost (c : Cl) (r : Option Vl) (w : World) (e : Ending) (w' : World) : Prop :=
  Below w.heap.size w w' ∧ ((∃ u y, r = some u ∧ e = .returned (.tuple #[y, .bool true]) ∧ u.In c y) ∨ (r = none ∧ ∃ y, e = .returned (.tuple #[y, .bool false]) ∧ Ps.mkN.In c y))
def GetC (ns : List (List UInt8)) : Prop := ∀ (c : Cl) (v : Vl) (x : Value) (A : Option Addr) (e : Nat) (w : World), c.le w.cell? → v.In c x → Strs w.cell? A ns → ns.length ≤ e → e ≤ maxLen → (∀ n ∈ ns, n.length ≤ 1000000) → v.size ≤ 1000000 →
  Calls Tryz.prog 13 #[x, .slice A ns.length e] w (GetPost c (get v ns) w)

set_option linter.unusedSimpArgs false in
set_option linter.unusedVariables false in
set_option maxRecDepth 100000 in
set_option maxHeartbeats 1000000 in
theorem refGet_nil : GetC [] := by
    intro c v x A e w hcl hx hs he hm hns hv
    obtain ⟨k1, b1, n1, g1, x1, s1, A1, l1, p1, B1, m1, d1, rfl⟩ := In.cells hx
    have HBLK := Lib.hid (Blk.new2 w (.cells #[.int .i64 k1, .bool b1, .bool n1, .string ⟨g1.toArray⟩, .int .i64 x1, .string ⟨s1.toArray⟩, .slice A1 l1 p1, .slice B1 m1 d1] 28) 28 #[.int .i64 k1, .bool b1, .bool n1, .string ⟨g1.toArray⟩, .int .i64 x1, .string ⟨s1.toArray⟩, .slice A1 l1 p1, .slice B1 m1 d1])
    have hb0 : Below w.heap.size w ((w.alloc (.cells #[.int .i64 k1, .bool b1, .bool n1, .string ⟨g1.toArray⟩, .int .i64 x1, .string ⟨s1.toArray⟩, .slice A1 l1 p1, .slice B1 m1 d1] 28)).alloc (.cells #[.int .i64 k1, .bool b1, .bool n1, .string ⟨g1.toArray⟩, .int .i64 x1, .string ⟨s1.toArray⟩, .slice A1 l1 p1, .slice B1 m1 d1] 28)) := below_two0 w _ _
    have HB0 := Lib.hid hb0
    have HX := Lib.hid hx
    have HG := Lib.hid (show get v [] = some v by cases v; rfl)
    clear hx hs hns hb0
    go_enter Tryz.func13, Tryz.ntmps13
    go_wp2_with fail
    refine bodyPost_ret (results_row (l := [_, _, _, _, _, _, _, _]) rfl _ _ _ rfl HBLK.out Tryz.underlying28 rfl (by kernel_rfl)) rfl ?_
    exact ⟨HB0.out, .inl ⟨v, _, HG.out, rfl, HX.out⟩⟩
set_option linter.unusedSimpArgs false in
set_option linter.unusedVariables false in
set_option maxRecDepth 100000 in
set_option maxHeartbeats 1000000 in
theorem refGet_list (nm : List UInt8) (ns : List (List UInt8)) (ih : GetC ns) (c : Cl) (b : Bool) (n : Nm.Num) (s : List UInt8) (l : List Vl) (m : List Js.Mem) (x : Value) (A : Option Addr) (e : Nat) (w : World)
    (hcl : c.le w.cell?) (hx : (Vl.mk 4 b n s l m).In c x) (hs : Strs w.cell? A (nm :: ns)) (he : (nm :: ns).length ≤ e) (hm : e ≤ maxLen) (hns : ∀ n ∈ nm :: ns, n.length ≤ 1000000) (hv : (Vl.mk 4 b n s l m).size ≤ 1000000) :
    Calls Tryz.prog 13 #[x, .slice A (nm :: ns).length e] w (GetPost c (get (Vl.mk 4 b n s l m) (nm :: ns)) w) := by
    obtain ⟨A', e', B', d', rfl, q1, q2, q3, q4, q5, q6⟩ := In.form hx
    obtain ⟨g0, o0, rfl, hc0⟩ := hs 0 nm rfl
    rw [Nat.add_zero] at hc0
    simp only [List.length_cons] at he
    have hb0 : Below w.heap.size w ((w.alloc (.cells #[.int .i64 4, .bool b, .bool n.neg, .string ⟨n.digits.toArray⟩, .int .i64 n.exp, .string ⟨s.toArray⟩, .slice A' l.length e', .slice B' m.length d'] 28)).alloc (.cells #[.int .i64 0, .bool false, .bool false, .string ⟨#[]⟩, .int .i64 0, .string ⟨#[]⟩, .slice none 0 0, .slice none 0 0] 28)) := below_two0 w _ _
    have HB0 := Lib.hid hb0
    have hc1 := le_below hb0 _ _ hc0
    have HZ := Lib.hid (Blk.new2 w (.cells #[.int .i64 4, .bool b, .bool n.neg, .string ⟨n.digits.toArray⟩, .int .i64 n.exp, .string ⟨s.toArray⟩, .slice A' l.length e', .slice B' m.length d'] 28) 28 #[.int .i64 0, .bool false, .bool false, .string ⟨#[]⟩, .int .i64 0, .string ⟨#[]⟩, .slice none 0 0, .slice none 0 0])
    have HBX := Lib.hid ((Blk.new w 28 #[.int .i64 4, .bool b, .bool n.neg, .string ⟨n.digits.toArray⟩, .int .i64 n.exp, .string ⟨s.toArray⟩, .slice A' l.length e', .slice B' m.length d']).alloc (.cells #[.int .i64 0, .bool false, .bool false, .string ⟨#[]⟩, .int .i64 0, .string ⟨#[]⟩, .slice none 0 0, .slice none 0 0] 28))
    have hll : l.length ≤ 1000000 := by have := sizeL_len l; simp only [Vl.size] at hv; omega
    have hnl := hns nm (by simp)
    have HIX := Lib.hid (fun W => refIndex_any nm l.length false W (by omega) (by omega))
    unfold maxLen at hm q2 q4
    have HS := Lib.hid hs
    have H5 := Lib.hid (show SlL c A' l from q5)
    have HX := Lib.hid hx
    clear hx hs hb0 q5 q6 hc0
    obtain ⟨q, hq⟩ : ∃ q, index nm l.length false = q := ⟨_, rfl⟩
    obtain ⟨qi, qb⟩ := q
    have HQ := Lib.hid hq
    rw [hq] at HIX
    simp only at HIX
    clear hq
    go_enter Tryz.func13, Tryz.ntmps13
    go_wp2_with fail
    go_quiet ((go_at_call 22; refine Calls.quiet_of_same (HIX.out _)))
    cases qb with
    | false =>
      have HGN := Lib.hid (show get (.mk 4 b n s l m) (nm :: ns) = none by
        rw [get_cons, if_pos rfl, HQ.out]
        cases l[(qi, false).1]? <;> rfl)
      go_wp2_with fail
      refine bodyPost_ret (results_row (l := [_, _, _, _, _, _, _, _]) rfl _ _ _ rfl ((HZ.out.drewN nq).set8 _ _ _ _ _ _ _ _) Tryz.underlying28 rfl (by kernel_rfl)) rfl ?_
      exact ⟨below_set8 (below_drewN HB0.out nq) (by omega) _ _ _ _ _ _ _ _, .inr ⟨HGN.out, _, rfl, leaf_in _ 0 false Nm.Num.zero []⟩⟩
    | true =>
      have hlt := index_lt HQ.out
      obtain ⟨g, o, y, rfl, hy, hc⟩ := H5.out qi _ (List.getElem?_eq_getElem hlt)
      obtain ⟨j1, j2, j3, j4, j5, j6, j7, j8, j9, ja, jb, jc, rfl⟩ := In.cells hy
      have HGN := Lib.hid (show get (.mk 4 b n s l m) (nm :: ns) = get l[qi] ns by
        rw [get_cons, if_pos rfl, HQ.out]
        simp only [List.getElem?_eq_getElem hlt]
        rfl)
      have HY := Lib.hid hy
      have HU := Lib.hid (show l[qi].size ≤ 1000000 by have := sizeL_at hlt; simp only [Vl.size] at hv; omega)
      have hle := le_below (below_drewN HB0.out nq)
      obtain ⟨e0, e1, e2, e3, e4, e5, e6, e7⟩ := (hc.keep (hcl.trans hle)).eight
      have hz := (HZ.out.drewN nq)
      have hbx := (HBX.out.drewN nq)
      have HB2 := Lib.hid (below_drewN HB0.out nq)
      have hbx6 := hbx.cell 6
      obtain ⟨z0, z1, z2, z3, z4, z5, z6, z7⟩ := hz.eight
      have zf := hz.frozen
      have zl := hz.lt
      have HZ2 := Lib.hid hz
      clear hc hy hle hbx hz HZ HBX HB0 hc1
      go_upto_region 7 with (fail)
      generalize World.drewN _ nq = w2 at *
      generalize l[qi] = u at *
      have HCALL := Lib.hid (fun (W : World) (hbW : Below w2.heap.size w2 W) B2 d2 (h1 : Strs W.cell? B2 ns) (h2 : ns.length ≤ d2) (h3 : d2 ≤ maxLen) => ih c u _ B2 d2 W (hcl.trans ((le_below HB2.out).trans (le_below hbW))) HY.out h1 h2 h3 (fun n hn => hns n (List.mem_cons_of_mem _ hn)) HU.out)
      have hs1 : (1 : Int) ≤ (ns.length : Int) + 1 := by omega
      obtain ⟨AJ, hAJ⟩ : ∃ AJ, (if e = 1 then some (⟨g0, o0, none⟩ : Addr) else some ⟨g0, o0 + 1, none⟩) = AJ := ⟨_, rfl⟩
      have HSJ := Lib.hid (show Strs w2.cell? AJ ns by
        intro i nn hi
        have hil := (List.getElem?_eq_some_iff.1 hi).1
        obtain ⟨g1, o1, h1, h2⟩ := HS.out (i + 1) nn (by simpa using hi)
        injection h1 with h1
        injection h1 with h1 h3 _
        subst h1 h3
        refine ⟨g0, o0 + 1, by rw [← hAJ, if_neg (by omega)], ?_⟩
        have := le_below HB2.out _ _ h2
        rw [show o0 + (i + 1) = o0 + 1 + i by omega] at this
        exact this)
      have HCALL2 := Lib.hid (HCALL.out w2.drew ((Below.refl _ _).drew) AJ (e - 1) HSJ.out (by omega) (by unfold maxLen; omega))
      clear HCALL
      go_region_law (first | (go_simp; go_at_call 13; refine HCALL2.out.mono ?_; rintro e9 w9 ⟨hb9, hr9⟩; have hr8 : ∃ y bb, e9 = .returned (.tuple #[y, .bool bb]) ∧ ((∃ r, get u ns = some r ∧ bb = true ∧ r.In c y) ∨ (get u ns = none ∧ bb = false ∧ Ps.mkN.In c y)) := (by rcases hr9 with ⟨r, y, h1, h2, h3⟩ | ⟨h1, y, h2, h3⟩; exact ⟨y, true, h2, .inl ⟨r, h1, rfl, h3⟩⟩; exact ⟨y, false, h2, .inr ⟨h1, rfl, h3⟩⟩); clear hr9; obtain ⟨y, bb, rfl, hr⟩ := hr8; obtain ⟨i1, i2, i3, i4, i5, i6, i7, i8, i9, ia, ib, ic, rfl⟩ : ∃ i1 i2 i3 i4 i5 i6 i7 i8 i9 ia ib ic, y = vlV i1 i2 i3 i4 i5 i6 (.slice i7 i8 i9) (.slice ia ib ic) := (by rcases hr with ⟨r, _, _, h⟩ | ⟨_, _, h⟩ <;> exact In.cells h); have HR9 := Lib.hid hr; have hb9 : Below w2.heap.size w2 w9 := ((Below.refl w2.heap.size w2).drew).trans (show Below w2.heap.size w2.drew w9 from hb9); have HB9 := Lib.hid hb9; have hz9 := HZ2.out.below hb9 zl; obtain ⟨y0, y1, y2, y3, y4, y5, y6, y7⟩ := hz9.eight; have yf := hz9.frozen; have yl := hz9.lt; have HZ9 := Lib.hid hz9; clear hr hb9 hz9))
      go_wp2_with fail
      refine bodyPost_ret (results_row (l := [_, _, _, _, _, _, _, _]) rfl _ _ _ rfl (HZ9.out.set8 _ _ _ _ _ _ _ _) Tryz.underlying28 rfl (by kernel_rfl)) rfl ?_
      have hbf := below_set8 (HB2.out.trans (HB9.out.mono HB2.out.size)) (g := w.heap.size + 1) (by omega) (.int .i64 i1) (.bool i2) (.bool i3) (.string ⟨i4.toArray⟩) (.int .i64 i5) (.string ⟨i6.toArray⟩) (.slice i7 i8 i9) (.slice ia ib ic)
      rcases HR9.out with ⟨r, h1, rfl, h3⟩ | ⟨h1, rfl, h3⟩
      · exact ⟨hbf, .inl ⟨r, _, HGN.out.trans h1, rfl, h3⟩⟩
      · exact ⟨hbf, .inr ⟨HGN.out.trans h1, _, rfl, h3⟩⟩

end Go.Proofs.YtlhinefalkfjaaaGreatDoor

namespace Go.Proofs.YtlhinefalkfjaaaGreatDoor
open Go.RowKit Pt Js

def FindPostC (c : Cl) (r : Option Vl) (w : World) (e : Ending) (w' : World) : Prop :=
  ∃ x, e = .returned (.tuple #[x, .bool r.isSome]) ∧ (r.getD none0).In c x ∧ Below w.heap.size w w'
theorem FindPostC.no {c : Cl} {r : Option Vl} {w w' : World} (h : r = none) (hb : Below w.heap.size w w') : FindPostC c r w (.returned (.tuple #[zeroV, .bool false])) w' := by
  subst h; exact ⟨_, rfl, zero_in _, hb⟩
theorem FindPostC.yes {c : Cl} {r : Option Vl} {u : Vl} {w w' : World} {x : Value} (h : r = some u) (hx : u.In c x) (hb : Below w.heap.size w w') : FindPostC c r w (.returned (.tuple #[x, .bool true])) w' := by
  subst h; exact ⟨_, rfl, hx, hb⟩

set_option linter.unusedVariables false in
set_option linter.unusedSimpArgs false in
set_option maxRecDepth 100000 in
set_option maxHeartbeats 2000000 in
theorem refFindC_any (c : Cl) (v : Vl) (key : List UInt8) (x : Value) (w : World) (hcl : c.le w.cell?) (hx : v.In c x) :
    Calls Tryz.prog 23 #[x, .string ⟨key.toArray⟩] w (FindPostC c (v.find key) w) := by
  obtain ⟨k, b, n, s, l, m⟩ := v
  obtain ⟨A, e, B, d, rfl, q1, q2, q3, q4, q5, q6⟩ := In.form hx
  have H6 := Lib.hid (show SlM c B m from q6)
  have HB2 : Below w.heap.size w _ := (((Below.refl _ _).alloc (Nat.le_refl _) (.cells #[.int .i64 k, .bool b, .bool n.neg, .string ⟨n.digits.toArray⟩, .int .i64 n.exp, .string ⟨s.toArray⟩, .slice A l.length e, .slice B m.length d] 28)).alloc (by simp) (.cells #[.int .i64 0, .bool false, .bool false, .string ⟨#[]⟩, .int .i64 0, .string ⟨#[]⟩, .slice none 0 0, .slice none 0 0] 28))
  clear q5 q6 hx
  unfold maxLen at q2 q4
  go_enter Tryz.func23, Tryz.ntmps23
  go_wp2_with fail
  go_loopw [6] (Looking w k b n s (.slice A l.length e) (.slice B m.length d) m key) (fun i _ => m.length - (intOf i).toNat)
  case atStart => exact ⟨0, by omega, rfl, fun _ q hq => by simp at hq, rfl⟩
  case round =>
    obtain ⟨j, hj, rfl, hno, rfl⟩ := hrel
    have HNO := Lib.hid hno
    clear hno
    by_cases hlt : j < m.length
    · have hp := List.getElem?_eq_getElem hlt
      obtain ⟨g, o, y, rfl, hy, hk, hc⟩ := H6.out j _ hp
      obtain ⟨k1, b1, n1, g1, x1, s1, A1, l1, p1, B1, m1, d1, rfl⟩ := In.cells hy
      obtain ⟨e0, e1, e2, e3, e4, e5, e6, e7⟩ := (hc.keep hcl).eight
      have hk := hcl _ _ hk
      have hgw : g < w.heap.size := World.block_lt_of_cell? w _ hk
      have HY := Lib.hid hy
      have HNX := Lib.hid (show ∀ q ∈ m.take (j + 1), q ∈ m.take j ∨ q = m[j] by
        intro q hq
        rw [List.take_succ_eq_append_getElem hlt] at hq
        rcases List.mem_append.1 hq with h | h
        · exact .inl h
        · exact .inr (List.mem_singleton.1 h))
      have HFI := Lib.hid (fun h => find_first hp h)
      clear hp hy hc
      by_cases h5 : k = 5
      · subst h5
        by_cases hkey : m[j].1 = key
        · have HF := Lib.hid (show (Vl.mk 5 b n s l m).find key = some m[j].2 from by
            have := HFI.out (fun q hq => by rw [hkey]; exact HNO.out rfl q hq)
            rw [hkey] at this
            simpa [Vl.find] using this)
          have kk : (m[j].1 == key) = true := by simpa using hkey
          clear HFI hkey
          generalize m[j].1 = mk at *
          have hblk := Blk.new2 w (.cells #[.int .i64 5, .bool b, .bool n.neg, .string ⟨n.digits.toArray⟩, .int .i64 n.exp, .string ⟨s.toArray⟩, .slice A l.length e, .slice (some ⟨g, o, none⟩) m.length d] 28) 28 #[.int .i64 k1, .bool b1, .bool n1, .string ⟨g1.toArray⟩, .int .i64 x1, .string ⟨s1.toArray⟩, .slice A1 l1 p1, .slice B1 m1 d1]
          have HBLK := Lib.hid hblk
          clear hblk
          go_wp2_with fail
          refine bodyPost_ret (results_row (l := [_, _, _, _, _, _, _, _]) rfl _ _ _ rfl HBLK.out Tryz.underlying28 rfl (by kernel_rfl)) rfl ?_
          have hbb : Below w.heap.size w _ := (((Below.refl _ _).alloc (Nat.le_refl _) (.cells #[.int .i64 5, .bool b, .bool n.neg, .string ⟨n.digits.toArray⟩, .int .i64 n.exp, .string ⟨s.toArray⟩, .slice A l.length e, .slice (some ⟨g, o, none⟩) m.length d] 28)).alloc (by simp) (.cells #[.int .i64 k1, .bool b1, .bool n1, .string ⟨g1.toArray⟩, .int .i64 x1, .string ⟨s1.toArray⟩, .slice A1 l1 p1, .slice B1 m1 d1] 28))
          exact FindPostC.yes HF.out HY.out hbb
        · have HK := Lib.hid hkey
          have kk : (m[j].1 == key) = false := by simpa using hkey
          have HREL := Lib.hid (show (5 : Int) = 5 → ∀ q ∈ m.take (j + 1), q.1 ≠ key from fun _ q hq => (HNX.out q hq).elim (HNO.out rfl q) (fun e => by rw [e]; exact hkey))
          clear HFI hkey
          generalize m[j].1 = mk at *
          go_wp2_with fail
          go_roundw
          case rel => exact ⟨j + 1, by omega, by go_num, HREL.out, rfl⟩
          case measure => simp [intOf]; omega
      · have t1 : (k == 5) = false := by simpa using h5
        have HREL := Lib.hid (show k = 5 → ∀ q ∈ m.take (j + 1), q.1 ≠ key from fun h => absurd h h5)
        clear h5 HFI
        go_wp2_with fail
        go_roundw
        case rel => exact ⟨j + 1, by omega, by go_num, HREL.out, rfl⟩
        case measure => simp [intOf]; omega
    · obtain rfl : j = m.length := by omega
      have HF := Lib.hid (show (Vl.mk k b n s l m).find key = none from by
        unfold Vl.find
        simp only
        split
        · rename_i h5
          exact find_none (fun p hp => HNO.out h5 p (by rw [List.take_length]; exact hp))
        · rfl)
      have hblk := Blk.new2 w (.cells #[.int .i64 k, .bool b, .bool n.neg, .string ⟨n.digits.toArray⟩, .int .i64 n.exp, .string ⟨s.toArray⟩, .slice A l.length e, .slice B m.length d] 28) 28 #[.int .i64 0, .bool false, .bool false, .string ⟨#[]⟩, .int .i64 0, .string ⟨#[]⟩, .slice none 0 0, .slice none 0 0]
      have HBLK := Lib.hid hblk
      clear hblk
      go_wp2_with fail
      refine bodyPost_ret (results_row (l := [_, _, _, _, _, _, _, _]) rfl _ _ _ rfl HBLK.out Tryz.underlying28 rfl (by kernel_rfl)) rfl ?_
      exact FindPostC.no HF.out HB2

end Go.Proofs.YtlhinefalkfjaaaGreatDoor

namespace Go.Proofs.YtlhinefalkfjaaaGreatDoor
open Go.RowKit Pt Js

def Found (c : Cl) (r : Option Vl) (rb : Bool) (n0 : Nat) (w2 : World) (v8 v9 : Value) (wc : World) : Prop :=
  ∃ (p8 : Nat) (cs : Array Value), v8 = .pointer (some ⟨p8, 0, none⟩) ∧ v9 = .bool rb ∧ Blk wc p8 28 cs ∧ (r.getD none0).In c (.agg cs) ∧ Blk wc (n0 + 1) 28 #[.int .i64 0, .bool false, .bool false, .string ⟨#[]⟩, .int .i64 0, .string ⟨#[]⟩, .slice none 0 0, .slice none 0 0] ∧ Below w2.heap.size w2 wc
theorem Blk.set8o {w : World} {g h : Nat} {t : TypeId} {cs : Array Value} (hb : Blk w g t cs) (hn : g ≠ h) (v0 v1 v2 v3 v4 v5 v6 v7 : Value) : Blk (Go.Proofs.YtlhinefalkfjaaaGreatDoor.set8 w h v0 v1 v2 v3 v4 v5 v6 v7) g t cs := by
  unfold Blk
  rw [heap_set8 _ _ _ hn]
  exact hb
theorem sizeM_at {m : List Js.Mem} {p : Js.Mem} (h : p ∈ m) : p.2.size ≤ sizeM m := by
  obtain ⟨i, hi, rfl⟩ := List.getElem_of_mem h
  have h1 := sizeM_take m i hi
  have h2 := sizeM_le m (i + 1)
  omega
theorem find_size {v u : Vl} {key : List UInt8} (h : v.find key = some u) : u.size ≤ v.size := by
  obtain ⟨k, b, n, s, l, m⟩ := v
  unfold Vl.find at h
  simp only at h
  split at h
  · unfold Js.find at h
    obtain ⟨p, hp, rfl⟩ := Option.map_eq_some_iff.1 h
    have := sizeM_at (List.mem_of_find?_eq_some hp)
    simp only [Vl.size]
    omega
  · cases h

set_option linter.unusedSimpArgs false in
set_option linter.unusedVariables false in
set_option maxRecDepth 100000 in
set_option maxHeartbeats 1000000 in
theorem refGet_member (nm : List UInt8) (ns : List (List UInt8)) (ih : GetC ns) (c : Cl) (k : Int) (hk : ¬ k = 4) (b : Bool) (n : Nm.Num) (s : List UInt8) (l : List Vl) (m : List Js.Mem) (x : Value) (A : Option Addr) (e : Nat) (w : World)
    (hcl : c.le w.cell?) (hx : (Vl.mk k b n s l m).In c x) (hs : Strs w.cell? A (nm :: ns)) (he : (nm :: ns).length ≤ e) (hm : e ≤ maxLen) (hns : ∀ n ∈ nm :: ns, n.length ≤ 1000000) (hv : (Vl.mk k b n s l m).size ≤ 1000000) :
    Calls Tryz.prog 13 #[x, .slice A (nm :: ns).length e] w (GetPost c (get (Vl.mk k b n s l m) (nm :: ns)) w) := by
  have HFI := Lib.hid (fun W (h : Below w.heap.size w W) => refFindC_any c (Vl.mk k b n s l m) nm x W (hcl.trans (le_below h)) hx)
  obtain ⟨A', e', B', d', rfl, q1, q2, q3, q4, q5, q6⟩ := In.form hx
  obtain ⟨g0, o0, rfl, hc0⟩ := hs 0 nm rfl
  rw [Nat.add_zero] at hc0
  simp only [List.length_cons] at he
  have hb0 : Below w.heap.size w ((w.alloc (.cells #[.int .i64 k, .bool b, .bool n.neg, .string ⟨n.digits.toArray⟩, .int .i64 n.exp, .string ⟨s.toArray⟩, .slice A' l.length e', .slice B' m.length d'] 28)).alloc (.cells #[.int .i64 0, .bool false, .bool false, .string ⟨#[]⟩, .int .i64 0, .string ⟨#[]⟩, .slice none 0 0, .slice none 0 0] 28)) := below_two0 w _ _
  have HB0 := Lib.hid hb0
  have hc1 := le_below hb0 _ _ hc0
  have HZ := Lib.hid (Blk.new2 w (.cells #[.int .i64 k, .bool b, .bool n.neg, .string ⟨n.digits.toArray⟩, .int .i64 n.exp, .string ⟨s.toArray⟩, .slice A' l.length e', .slice B' m.length d'] 28) 28 #[.int .i64 0, .bool false, .bool false, .string ⟨#[]⟩, .int .i64 0, .string ⟨#[]⟩, .slice none 0 0, .slice none 0 0])
  have HBX := Lib.hid ((Blk.new w 28 #[.int .i64 k, .bool b, .bool n.neg, .string ⟨n.digits.toArray⟩, .int .i64 n.exp, .string ⟨s.toArray⟩, .slice A' l.length e', .slice B' m.length d']).alloc (.cells #[.int .i64 0, .bool false, .bool false, .string ⟨#[]⟩, .int .i64 0, .string ⟨#[]⟩, .slice none 0 0, .slice none 0 0] 28))
  have HGN := Lib.hid (get_cons k b n s l m nm ns)
  have HFS := Lib.hid (fun u h => find_size (v := Vl.mk k b n s l m) (u := u) (key := nm) h)
  have HSZ := Lib.hid hv
  have HK := Lib.hid hk
  have hk1 : (k == 4) = false := by simpa using hk
  unfold maxLen at hm q2 q4
  have HS := Lib.hid hs
  obtain ⟨r, hr⟩ : ∃ r, (Vl.mk k b n s l m).find nm = r := ⟨_, rfl⟩
  rw [hr] at HFI HGN
  have HR := Lib.hid hr
  clear hx hs hb0 q5 q6 hc0 hv hr
  go_enter Tryz.func13, Tryz.ntmps13
  go_wp2_with fail
  obtain ⟨a0, a1, a2, a3, a4, a5, a6, a7⟩ := HBX.out.eight
  obtain ⟨z0, z1, z2, z3, z4, z5, z6, z7⟩ := HZ.out.eight
  have zl := HZ.out.lt
  have xl := HBX.out.lt
  have hgl := World.block_lt_of_cell? _ _ hc1
  have HZ2 := Lib.hid HZ.out
  clear HZ HBX
  generalize (w.alloc (.cells #[.int .i64 k, .bool b, .bool n.neg, .string ⟨n.digits.toArray⟩, .int .i64 n.exp, .string ⟨s.toArray⟩, .slice A' l.length e', .slice B' m.length d'] 28)).alloc (.cells #[.int .i64 0, .bool false, .bool false, .string ⟨#[]⟩, .int .i64 0, .string ⟨#[]⟩, .slice none 0 0, .slice none 0 0] 28) = w2 at *
  have HFX := Lib.hid (show ∀ W, Below w2.heap.size w2 W → Calls Tryz.prog 23 #[.agg #[.int .i64 k, .bool b, .bool n.neg, .string ⟨n.digits.toArray⟩, .int .i64 n.exp, .string ⟨s.toArray⟩, .slice A' l.length e', .slice B' m.length d'], .string ⟨nm.toArray⟩] W (fun e w' => ∃ y, e = .returned (.tuple #[y, .bool r.isSome]) ∧ (r.getD none0).In c y ∧ Below w2.heap.size w2 w' ∧ Below W.heap.size W w') from fun W h => (HFI.out W (HB0.out.trans (h.mono HB0.out.size))).mono (by
    rintro e9 w9 ⟨y, h1, h2, h3⟩
    exact ⟨y, h1, h2, h.trans (h3.mono h.size), h3⟩))
  generalize hrb : r.isSome = rb at *
  have HRB := Lib.hid hrb
  clear hrb
  go_cut [8, 9] from 8 to 47 (fun v8 v9 wc => Found c r rb w.heap.size w2 v8 v9 wc)
  case first =>
    go_region_law (first | (go_simp; go_at_call 23; refine (HFX.out _ (by first | exact (Below.refl _ _).drew | exact ((Below.refl _ _).alloc (Nat.le_refl _) _).drew)).mono ?_; rintro e9 w9 ⟨y, rfl, hy, hb9, hbw⟩; obtain ⟨j1, j2, j3, j4, j5, j6, j7, j8, j9, ja, jb, jc, rfl⟩ := In.cells hy; have HY := Lib.hid hy; have HB9 := Lib.hid hb9; have hz9 := HZ2.out.below hb9 zl; have HZ9 := Lib.hid hz9; have hsz9 := hb9.size; first | (have h8 : Blk w9 w2.heap.size 28 #[.int .i64 0, .bool false, .bool false, .string ⟨#[]⟩, .int .i64 0, .string ⟨#[]⟩, .slice none 0 0, .slice none 0 0] := (show Blk (World.drew (w2.alloc (.cells #[.int .i64 0, .bool false, .bool false, .string ⟨#[]⟩, .int .i64 0, .string ⟨#[]⟩, .slice none 0 0, .slice none 0 0] 28))) _ _ _ from Blk.new w2 _ _).on hbw; have h8c := h8.eight; have h8f := h8.frozen; have h8l := h8.lt; have H8 := Lib.hid h8; clear h8) | skip; clear hy hb9 hz9 hbw))
    all_goals
      go_wp2_with fail
      go_meet
      case rel => first
        | exact ⟨w2.heap.size, _, rfl, rfl, H8.out.set8 _ _ _ _ _ _ _ _, HY.out, HZ9.out.set8o (by omega) _ _ _ _ _ _ _ _, below_set8 HB9.out (Nat.le_refl _) _ _ _ _ _ _ _ _⟩
        | exact ⟨_, _, rfl, rfl, Blk.new _ _ _, HY.out, HZ9.out.alloc _, HB9.out.alloc HB9.out.size _⟩
  case rest =>
    obtain ⟨p8, cs, rfl, rfl, hb8, hin, hz, hbw⟩ := hcut
    have HB2 := Lib.hid (HB0.out.trans (hbw.mono HB0.out.size))
    have hsw := hbw.size
    have HGN2 := HGN.out
    rw [if_neg HK.out] at HGN2
    clear hbw HGN z0 z1 z2 z3 z4 z5 z6 z7 a0 a1 a2 a3 a4 a5 a6 a7 hc1 hgl
    obtain ⟨z0, z1, z2, z3, z4, z5, z6, z7⟩ := hz.eight
    have zf := hz.frozen
    have zl2 := hz.lt
    have HZ2' := Lib.hid hz
    clear hz
    cases rb with
    | false =>
      cases r with
      | some u => exact absurd HRB.out (by simp)
      | none =>
        have HGN3 := Lib.hid HGN2
        clear HGN2
        go_wp2_with fail
        refine bodyPost_ret (results_row (l := [_, _, _, _, _, _, _, _]) rfl _ _ _ rfl (HZ2'.out.set8 _ _ _ _ _ _ _ _) Tryz.underlying28 rfl (by kernel_rfl)) rfl ?_
        exact ⟨below_set8 HB2.out (by omega) _ _ _ _ _ _ _ _, .inr ⟨HGN3.out, _, rfl, leaf_in _ 0 false Nm.Num.zero []⟩⟩
    | true =>
      cases r with
      | none => exact absurd HRB.out (by simp)
      | some u =>
        have HGN3 := Lib.hid (show get (Vl.mk k b n s l m) (nm :: ns) = get u ns from HGN2)
        have HU := Lib.hid (show u.size ≤ 1000000 by have := HFS.out u HR.out; have := HSZ.out; omega)
        have HY := Lib.hid (show u.In c (.agg cs) from hin)
        obtain ⟨j1, j2, j3, j4, j5, j6, j7, j8, j9, ja, jb, jc, hcs⟩ := In.cells (show u.In c (.agg cs) from hin)
        injection hcs with hcs
        subst hcs
        obtain ⟨e0, e1, e2, e3, e4, e5, e6, e7⟩ := hb8.eight
        have HCALL := Lib.hid (fun (W : World) (hbW : Below wc.heap.size wc W) B2 d2 (h1 : Strs W.cell? B2 ns) (h2 : ns.length ≤ d2) (h3 : d2 ≤ maxLen) => ih c u _ B2 d2 W (hcl.trans ((le_below HB2.out).trans (le_below hbW))) HY.out h1 h2 h3 (fun n hn => hns n (List.mem_cons_of_mem _ hn)) HU.out)
        have hs1 : (1 : Int) ≤ (ns.length : Int) + 1 := by omega
        obtain ⟨AJ, hAJ⟩ : ∃ AJ, (if e = 1 then some (⟨g0, o0, none⟩ : Addr) else some ⟨g0, o0 + 1, none⟩) = AJ := ⟨_, rfl⟩
        have HSJ := Lib.hid (show Strs wc.cell? AJ ns by
          intro i nn hi
          have hil := (List.getElem?_eq_some_iff.1 hi).1
          obtain ⟨g1, o1, h1, h2⟩ := HS.out (i + 1) nn (by simpa using hi)
          injection h1 with h1
          injection h1 with h1 h3 _
          subst h1 h3
          refine ⟨g0, o0 + 1, by rw [← hAJ, if_neg (by omega)], ?_⟩
          have := le_below HB2.out _ _ h2
          rw [show o0 + (i + 1) = o0 + 1 + i by omega] at this
          exact this)
        have HCALL2 := Lib.hid (HCALL.out wc.drew ((Below.refl _ _).drew) AJ (e - 1) HSJ.out (by omega) (by unfold maxLen; omega))
        have HZ2 := HZ2'
        have zl := zl2
        clear HCALL HZ2' zl2 hin hb8 HGN2
        go_wp2_with fail
        go_region_law (first | (go_simp; go_at_call 13; refine HCALL2.out.mono ?_; rintro e9 w9 ⟨hb9, hr9⟩; have hr8 : ∃ y bb, e9 = .returned (.tuple #[y, .bool bb]) ∧ ((∃ r, get u ns = some r ∧ bb = true ∧ r.In c y) ∨ (get u ns = none ∧ bb = false ∧ Ps.mkN.In c y)) := (by rcases hr9 with ⟨r, y, h1, h2, h3⟩ | ⟨h1, y, h2, h3⟩; exact ⟨y, true, h2, .inl ⟨r, h1, rfl, h3⟩⟩; exact ⟨y, false, h2, .inr ⟨h1, rfl, h3⟩⟩); clear hr9; obtain ⟨y, bb, rfl, hr⟩ := hr8; obtain ⟨i1, i2, i3, i4, i5, i6, i7, i8, i9, ia, ib, ic, rfl⟩ : ∃ i1 i2 i3 i4 i5 i6 i7 i8 i9 ia ib ic, y = vlV i1 i2 i3 i4 i5 i6 (.slice i7 i8 i9) (.slice ia ib ic) := (by rcases hr with ⟨r, _, _, h⟩ | ⟨_, _, h⟩ <;> exact In.cells h); have HR9 := Lib.hid hr; have hb9 : Below wc.heap.size wc w9 := ((Below.refl wc.heap.size wc).drew).trans (show Below wc.heap.size wc.drew w9 from hb9); have HB9 := Lib.hid hb9; have hz9 := HZ2.out.below hb9 zl; obtain ⟨y0, y1, y2, y3, y4, y5, y6, y7⟩ := hz9.eight; have yf := hz9.frozen; have yl := hz9.lt; have HZ9 := Lib.hid hz9; clear hr hb9 hz9))
        go_wp2_with fail
        refine bodyPost_ret (results_row (l := [_, _, _, _, _, _, _, _]) rfl _ _ _ rfl (HZ9.out.set8 _ _ _ _ _ _ _ _) Tryz.underlying28 rfl (by kernel_rfl)) rfl ?_
        have hbf := below_set8 (HB2.out.trans (HB9.out.mono HB2.out.size)) (g := w.heap.size + 1) (by omega) (.int .i64 i1) (.bool i2) (.bool i3) (.string ⟨i4.toArray⟩) (.int .i64 i5) (.string ⟨i6.toArray⟩) (.slice i7 i8 i9) (.slice ia ib ic)
        rcases HR9.out with ⟨r, h1, rfl, h3⟩ | ⟨h1, rfl, h3⟩
        · exact ⟨hbf, .inl ⟨r, _, HGN3.out.trans h1, rfl, h3⟩⟩
        · exact ⟨hbf, .inr ⟨HGN3.out.trans h1, _, rfl, h3⟩⟩

theorem refGet_any : ∀ ns : List (List UInt8), GetC ns
  | [] => refGet_nil
  | nm :: ns => fun c v x A e w hcl hx hs he hm hns hv => by
    obtain ⟨k, b, n, s, l, m⟩ := v
    by_cases hk : k = 4
    · subst hk; exact refGet_list nm ns (refGet_any ns) c b n s l m x A e w hcl hx hs he hm hns hv
    · exact refGet_member nm ns (refGet_any ns) c k hk b n s l m x A e w hcl hx hs he hm hns hv

end Go.Proofs.YtlhinefalkfjaaaGreatDoor


