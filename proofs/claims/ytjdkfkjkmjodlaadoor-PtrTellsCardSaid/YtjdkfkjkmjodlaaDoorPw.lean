/- The walks of layer 6 (ptr): the document's Get. -/
import Derived.Test.YtjdkfkjkmjodlaaDoorPq
import Derived.Test.YtjdkfkjkmjodlaaDoorPu
import Derived.Test.YtjdkfkjkmjodlaaDoorMr
import Derived.BigQuiet
import Derived.Deep.RegionLaw
namespace Go.Proofs.YtjdkfkjkmjodlaaDoor
open Go.RowKit Pt Js

theorem get_cons (k : Int) (b : Bool) (n : Nm.Num) (s : List UInt8) (l : List Vl) (m : List Js.Mem) (nm : List UInt8) (ns : List (List UInt8)) : get (.mk k b n s l m) (nm :: ns) =
    if k = 4 then
      (match l[(index nm l.length false).1]? with
      | some x => if (index nm l.length false).2 = true then get x ns else none
      | none => none)
    else match (Vl.mk k b n s l m).find nm with
      | some x => get x ns
      | none => none := by
  rfl
theorem Blk.drewN {w : World} {g : Nat} {t : TypeId} {cs : Array Value} (h : Blk w g t cs) (n : Nat) : Blk (w.drewN n) g t cs := h
theorem sizeL_at {l : List Vl} {i : Nat} (h : i < l.length) : l[i].size ≤ sizeL l := by
  have h1 := sizeL_take l i h
  have h2 := sizeL_le l (i + 1)
  omega
/-- What Get tells: the value, or none. -/
def GetPost (c : Cl) (r : Option Vl) (w : World) (e : Ending) (w' : World) : Prop :=
  Below w.heap.size w w' ∧ ((∃ u y, r = some u ∧ e = .returned (.tuple #[y, .bool true]) ∧ u.In c y) ∨ (r = none ∧ ∃ y, e = .returned (.tuple #[y, .bool false]) ∧ Ps.mkN.In c y))
/-- What Get does with a value that lies in a reading of the world, and names. -/
def GetC (ns : List (List UInt8)) : Prop := ∀ (c : Cl) (v : Vl) (x : Value) (A : Option Addr) (e : Nat) (w : World), c.le w.cell? → v.In c x → Strs w.cell? A ns → ns.length ≤ e → e ≤ maxLen → (∀ n ∈ ns, n.length ≤ 1000000) → v.size ≤ 1000000 →
  Calls Tryd.prog 16 #[x, .slice A ns.length e] w (GetPost c (get v ns) w)

set_option linter.unusedSimpArgs false in
set_option linter.unusedVariables false in
set_option maxRecDepth 100000 in
set_option maxHeartbeats 1000000 in
theorem refGet_nil : GetC [] := by
    intro c v x A e w hcl hx hs he hm hns hv
    obtain ⟨k1, b1, n1, g1, x1, s1, A1, l1, p1, B1, m1, d1, rfl⟩ := In.cells hx
    have HBLK := Lib.hid (Blk.new2 w (.cells #[.int .i64 k1, .bool b1, .bool n1, .string ⟨g1.toArray⟩, .int .i64 x1, .string ⟨s1.toArray⟩, .slice A1 l1 p1, .slice B1 m1 d1] 41) 41 #[.int .i64 k1, .bool b1, .bool n1, .string ⟨g1.toArray⟩, .int .i64 x1, .string ⟨s1.toArray⟩, .slice A1 l1 p1, .slice B1 m1 d1])
    have hb0 : Below w.heap.size w ((w.alloc (.cells #[.int .i64 k1, .bool b1, .bool n1, .string ⟨g1.toArray⟩, .int .i64 x1, .string ⟨s1.toArray⟩, .slice A1 l1 p1, .slice B1 m1 d1] 41)).alloc (.cells #[.int .i64 k1, .bool b1, .bool n1, .string ⟨g1.toArray⟩, .int .i64 x1, .string ⟨s1.toArray⟩, .slice A1 l1 p1, .slice B1 m1 d1] 41)) := below_two0 w _ _
    have HB0 := Lib.hid hb0
    have HX := Lib.hid hx
    have HG := Lib.hid (show get v [] = some v by cases v; rfl)
    clear hx hs hns hb0
    go_enter Tryd.func16, Tryd.ntmps16
    go_wp2_with fail
    refine bodyPost_ret (results_row (l := [_, _, _, _, _, _, _, _]) rfl _ _ _ rfl HBLK.out Tryd.underlying41 rfl (by kernel_rfl)) rfl ?_
    exact ⟨HB0.out, .inl ⟨v, _, HG.out, rfl, HX.out⟩⟩
set_option linter.unusedSimpArgs false in
set_option linter.unusedVariables false in
set_option maxRecDepth 100000 in
set_option maxHeartbeats 1000000 in
theorem refGet_list (nm : List UInt8) (ns : List (List UInt8)) (ih : GetC ns) (c : Cl) (b : Bool) (n : Nm.Num) (s : List UInt8) (l : List Vl) (m : List Js.Mem) (x : Value) (A : Option Addr) (e : Nat) (w : World)
    (hcl : c.le w.cell?) (hx : (Vl.mk 4 b n s l m).In c x) (hs : Strs w.cell? A (nm :: ns)) (he : (nm :: ns).length ≤ e) (hm : e ≤ maxLen) (hns : ∀ n ∈ nm :: ns, n.length ≤ 1000000) (hv : (Vl.mk 4 b n s l m).size ≤ 1000000) :
    Calls Tryd.prog 16 #[x, .slice A (nm :: ns).length e] w (GetPost c (get (Vl.mk 4 b n s l m) (nm :: ns)) w) := by
    obtain ⟨A', e', B', d', rfl, q1, q2, q3, q4, q5, q6⟩ := In.form hx
    obtain ⟨g0, o0, rfl, hc0⟩ := hs 0 nm rfl
    rw [Nat.add_zero] at hc0
    simp only [List.length_cons] at he
    have hb0 : Below w.heap.size w ((w.alloc (.cells #[.int .i64 4, .bool b, .bool n.neg, .string ⟨n.digits.toArray⟩, .int .i64 n.exp, .string ⟨s.toArray⟩, .slice A' l.length e', .slice B' m.length d'] 41)).alloc (.cells #[.int .i64 0, .bool false, .bool false, .string ⟨#[]⟩, .int .i64 0, .string ⟨#[]⟩, .slice none 0 0, .slice none 0 0] 41)) := below_two0 w _ _
    have HB0 := Lib.hid hb0
    have hc1 := le_below hb0 _ _ hc0
    have HZ := Lib.hid (Blk.new2 w (.cells #[.int .i64 4, .bool b, .bool n.neg, .string ⟨n.digits.toArray⟩, .int .i64 n.exp, .string ⟨s.toArray⟩, .slice A' l.length e', .slice B' m.length d'] 41) 41 #[.int .i64 0, .bool false, .bool false, .string ⟨#[]⟩, .int .i64 0, .string ⟨#[]⟩, .slice none 0 0, .slice none 0 0])
    have HBX := Lib.hid ((Blk.new w 41 #[.int .i64 4, .bool b, .bool n.neg, .string ⟨n.digits.toArray⟩, .int .i64 n.exp, .string ⟨s.toArray⟩, .slice A' l.length e', .slice B' m.length d']).alloc (.cells #[.int .i64 0, .bool false, .bool false, .string ⟨#[]⟩, .int .i64 0, .string ⟨#[]⟩, .slice none 0 0, .slice none 0 0] 41))
    have hll : l.length ≤ 1000000 := by have := sizeL_len l; simp only [Vl.size] at hv; omega
    have hnl := hns nm (by simp)
    have HIX := Lib.hid (fun W => refIndex_any nm l.length false W (by omega) (by omega))
    unfold maxLen at hm q2 q4
    have HS := Lib.hid hs
    have H5 := Lib.hid (show SlL c A' l from q5)
    have HX := Lib.hid hx
    clear hx hs hb0 q5 q6 hc0
    obtain ⟨q, hq⟩ : ∃ q, index nm l.length false = q := ⟨_, rfl⟩
    obtain ⟨qi, qb⟩ := q
    have HQ := Lib.hid hq
    rw [hq] at HIX
    simp only at HIX
    clear hq
    go_enter Tryd.func16, Tryd.ntmps16
    go_wp2_with fail
    go_quiet ((go_at_call 11; refine Calls.quiet_of_same (HIX.out _)))
    cases qb with
    | false =>
      have HGN := Lib.hid (show get (.mk 4 b n s l m) (nm :: ns) = none by
        rw [get_cons, if_pos rfl, HQ.out]
        cases l[(qi, false).1]? <;> rfl)
      go_wp2_with fail
      refine bodyPost_ret (results_row (l := [_, _, _, _, _, _, _, _]) rfl _ _ _ rfl ((HZ.out.drewN nq).set8 _ _ _ _ _ _ _ _) Tryd.underlying41 rfl (by kernel_rfl)) rfl ?_
      exact ⟨below_set8 (below_drewN HB0.out nq) (by omega) _ _ _ _ _ _ _ _, .inr ⟨HGN.out, _, rfl, leaf_in _ 0 false Nm.Num.zero []⟩⟩
    | true =>
      have hlt := index_lt HQ.out
      obtain ⟨g, o, y, rfl, hy, hc⟩ := H5.out qi _ (List.getElem?_eq_getElem hlt)
      obtain ⟨j1, j2, j3, j4, j5, j6, j7, j8, j9, ja, jb, jc, rfl⟩ := In.cells hy
      have HGN := Lib.hid (show get (.mk 4 b n s l m) (nm :: ns) = get l[qi] ns by
        rw [get_cons, if_pos rfl, HQ.out]
        simp only [List.getElem?_eq_getElem hlt]
        rfl)
      have HY := Lib.hid hy
      have HU := Lib.hid (show l[qi].size ≤ 1000000 by have := sizeL_at hlt; simp only [Vl.size] at hv; omega)
      have hle := le_below (below_drewN HB0.out nq)
      obtain ⟨e0, e1, e2, e3, e4, e5, e6, e7⟩ := (hc.keep (hcl.trans hle)).eight
      have hz := (HZ.out.drewN nq)
      have hbx := (HBX.out.drewN nq)
      have HB2 := Lib.hid (below_drewN HB0.out nq)
      have hbx6 := hbx.cell 6
      obtain ⟨z0, z1, z2, z3, z4, z5, z6, z7⟩ := hz.eight
      have zf := hz.frozen
      have zl := hz.lt
      have HZ2 := Lib.hid hz
      clear hc hy hle hbx hz HZ HBX HB0 hc1
      go_upto_region 7 with (fail)
      generalize World.drewN _ nq = w2 at *
      generalize l[qi] = u at *
      have HCALL := Lib.hid (fun (W : World) (hbW : Below w2.heap.size w2 W) B2 d2 (h1 : Strs W.cell? B2 ns) (h2 : ns.length ≤ d2) (h3 : d2 ≤ maxLen) => ih c u _ B2 d2 W (hcl.trans ((le_below HB2.out).trans (le_below hbW))) HY.out h1 h2 h3 (fun n hn => hns n (List.mem_cons_of_mem _ hn)) HU.out)
      have hs1 : (1 : Int) ≤ (ns.length : Int) + 1 := by omega
      obtain ⟨AJ, hAJ⟩ : ∃ AJ, (if e = 1 then some (⟨g0, o0, none⟩ : Addr) else some ⟨g0, o0 + 1, none⟩) = AJ := ⟨_, rfl⟩
      have HSJ := Lib.hid (show Strs w2.cell? AJ ns by
        intro i nn hi
        have hil := (List.getElem?_eq_some_iff.1 hi).1
        obtain ⟨g1, o1, h1, h2⟩ := HS.out (i + 1) nn (by simpa using hi)
        injection h1 with h1
        injection h1 with h1 h3 _
        subst h1 h3
        refine ⟨g0, o0 + 1, by rw [← hAJ, if_neg (by omega)], ?_⟩
        have := le_below HB2.out _ _ h2
        rw [show o0 + (i + 1) = o0 + 1 + i by omega] at this
        exact this)
      have HCALL2 := Lib.hid (HCALL.out w2.drew ((Below.refl _ _).drew) AJ (e - 1) HSJ.out (by omega) (by unfold maxLen; omega))
      clear HCALL
      go_region_law (first | (go_simp; go_at_call 16; refine HCALL2.out.mono ?_; rintro e9 w9 ⟨hb9, hr9⟩; have hr8 : ∃ y bb, e9 = .returned (.tuple #[y, .bool bb]) ∧ ((∃ r, get u ns = some r ∧ bb = true ∧ r.In c y) ∨ (get u ns = none ∧ bb = false ∧ Ps.mkN.In c y)) := (by rcases hr9 with ⟨r, y, h1, h2, h3⟩ | ⟨h1, y, h2, h3⟩; exact ⟨y, true, h2, .inl ⟨r, h1, rfl, h3⟩⟩; exact ⟨y, false, h2, .inr ⟨h1, rfl, h3⟩⟩); clear hr9; obtain ⟨y, bb, rfl, hr⟩ := hr8; obtain ⟨i1, i2, i3, i4, i5, i6, i7, i8, i9, ia, ib, ic, rfl⟩ : ∃ i1 i2 i3 i4 i5 i6 i7 i8 i9 ia ib ic, y = vlV i1 i2 i3 i4 i5 i6 (.slice i7 i8 i9) (.slice ia ib ic) := (by rcases hr with ⟨r, _, _, h⟩ | ⟨_, _, h⟩ <;> exact In.cells h); have HR9 := Lib.hid hr; have hb9 : Below w2.heap.size w2 w9 := ((Below.refl w2.heap.size w2).drew).trans (show Below w2.heap.size w2.drew w9 from hb9); have HB9 := Lib.hid hb9; have hz9 := HZ2.out.below hb9 zl; obtain ⟨y0, y1, y2, y3, y4, y5, y6, y7⟩ := hz9.eight; have yf := hz9.frozen; have yl := hz9.lt; have HZ9 := Lib.hid hz9; clear hr hb9 hz9))
      go_wp2_with fail
      refine bodyPost_ret (results_row (l := [_, _, _, _, _, _, _, _]) rfl _ _ _ rfl (HZ9.out.set8 _ _ _ _ _ _ _ _) Tryd.underlying41 rfl (by kernel_rfl)) rfl ?_
      have hbf := below_set8 (HB2.out.trans (HB9.out.mono HB2.out.size)) (g := w.heap.size + 1) (by omega) (.int .i64 i1) (.bool i2) (.bool i3) (.string ⟨i4.toArray⟩) (.int .i64 i5) (.string ⟨i6.toArray⟩) (.slice i7 i8 i9) (.slice ia ib ic)
      rcases HR9.out with ⟨r, h1, rfl, h3⟩ | ⟨h1, rfl, h3⟩
      · exact ⟨hbf, .inl ⟨r, _, HGN.out.trans h1, rfl, h3⟩⟩
      · exact ⟨hbf, .inr ⟨HGN.out.trans h1, _, rfl, h3⟩⟩

end Go.Proofs.YtjdkfkjkmjodlaaDoor

