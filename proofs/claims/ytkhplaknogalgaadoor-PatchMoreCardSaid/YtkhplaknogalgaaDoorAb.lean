/- Ab: Ab Ah Ac Ad, in one text. -/
import Derived.Test.YtkhplaknogalgaaDoorAa
import Derived.Test.YtkhplaknogalgaaDoorKa
import Derived.Test.YtkhplaknogalgaaDoorKf
import Derived.Test.YtkhplaknogalgaaDoorJd
import Derived.Laws.MakeOwn
/- Operations in memory; the walks of layer 8 (patch): the program's text, pointer, numberOf. -/
namespace Go.Proofs.YtkhplaknogalgaaDoor
open Go.RowKit Pt Js Oq

set_option linter.unusedVariables false in
set_option linter.unusedSimpArgs false in
set_option maxRecDepth 100000 in
set_option maxHeartbeats 1000000 in
theorem text8_any (c : Cl) (v : Vl) (key : List UInt8) (x : Value) (w : World) (hv : Fit v) (hcl : c.le w.cell?) (hx : v.In c x) :
    Calls Tryd.prog 32 #[x, .string ⟨key.toArray⟩] w fun e w' => e = .returned (.tuple #[.string ⟨((textOf v key).getD []).toArray⟩, .bool (textOf v key).isSome]) ∧ Below w.heap.size w w' := by
  obtain ⟨k_1, k_2, k_3, k_4, k_5, k_6, k_7, k_8, k_9, k_a, k_b, k_c, rfl⟩ := In.cells hx
  have HB := Lib.hid ((Below.refl w.heap.size w).alloc (Nat.le_refl _) (.cells #[.int .i64 k_1, .bool k_2, .bool k_3, .string ⟨k_4.toArray⟩, .int .i64 k_5, .string ⟨k_6.toArray⟩, .slice k_7 k_8 k_9, .slice k_a k_b k_c] 28))
  have HFI := Lib.hid (findC_any c v key _ (w.alloc (.cells #[.int .i64 k_1, .bool k_2, .bool k_3, .string ⟨k_4.toArray⟩, .int .i64 k_5, .string ⟨k_6.toArray⟩, .slice k_7 k_8 k_9, .slice k_a k_b k_c] 28)) (by obtain ⟨a1, a2, a3, a4, a5, a6, rfl, hr⟩ := fit_rises hv; exact hr) (by have := hv.size; omega) (hcl.trans (le_alloc _ _)) hx)
  obtain ⟨r, hr⟩ : ∃ r, v.find key = r := ⟨_, rfl⟩
  have hT : textOf v key = r.bind strOf := by unfold textOf; rw [hr]
  rw [hT]
  rw [hr] at HFI
  obtain ⟨q, hq⟩ : ∃ q, r.bind strOf = q := ⟨_, rfl⟩
  rw [hq]
  have HQ := Lib.hid hq
  clear hr hT hx hcl hv hq
  have HK1 := Lib.hid (Blk.new w 28 #[.int .i64 k_1, .bool k_2, .bool k_3, .string ⟨k_4.toArray⟩, .int .i64 k_5, .string ⟨k_6.toArray⟩, .slice k_7 k_8 k_9, .slice k_a k_b k_c])
  go_enter Tryd.func32, Tryd.ntmps32
  go_upto_region 1 with (fail)
  generalize w.alloc (.cells #[.int .i64 k_1, .bool k_2, .bool k_3, .string ⟨k_4.toArray⟩, .int .i64 k_5, .string ⟨k_6.toArray⟩, .slice k_7 k_8 k_9, .slice k_a k_b k_c] 28) = w1 at *
  obtain ⟨a0, a1, a2, a3, a4, a5, a6, a7⟩ := HK1.out.eight
  go_wp2_with fail
  refine HFI.out.mono ?_
  rintro e w2 ⟨y, rfl, hy, hb2⟩
  have HB2 := Lib.hid (HB.out.trans (hb2.mono HB.out.size))
  cases r with
  | none =>
    obtain ⟨j_1, j_2, j_3, j_4, j_5, j_6, j_7, j_8, j_9, j_a, j_b, j_c, rfl⟩ := In.cells hy
    have HB3 := Lib.hid (HB2.out.alloc HB2.out.size (.cells #[.int .i64 j_1, .bool j_2, .bool j_3, .string ⟨j_4.toArray⟩, .int .i64 j_5, .string ⟨j_6.toArray⟩, .slice j_7 j_8 j_9, .slice j_a j_b j_c] 28))
    clear hb2 hy HB
    obtain rfl : q = none := HQ.out.symm
    go_wp2_with fail
    go_ret2
    exact ⟨rfl, HB3.out⟩
  | some u =>
    obtain ⟨k, b, n, s, l, m⟩ := u
    obtain ⟨A, e, B, d, rfl, q1, q2, q3, q4, q5, q6⟩ := In.form hy
    have HB3 := Lib.hid (HB2.out.alloc HB2.out.size (.cells #[.int .i64 k, .bool b, .bool n.neg, .string ⟨n.digits.toArray⟩, .int .i64 n.exp, .string ⟨s.toArray⟩, .slice A l.length e, .slice B m.length d] 28))
    have HK3 := Lib.hid (Blk.new w2 28 #[.int .i64 k, .bool b, .bool n.neg, .string ⟨n.digits.toArray⟩, .int .i64 n.exp, .string ⟨s.toArray⟩, .slice A l.length e, .slice B m.length d])
    clear hb2 hy HB q5 q6
    go_upto_region 2 with (fail)
    generalize w2.alloc (.cells #[.int .i64 k, .bool b, .bool n.neg, .string ⟨n.digits.toArray⟩, .int .i64 n.exp, .string ⟨s.toArray⟩, .slice A l.length e, .slice B m.length d] 28) = w3 at *
    obtain ⟨a0, a1, a2, a3, a4, a5, a6, a7⟩ := HK3.out.eight
    by_cases hk : k = 3
    · subst hk
      obtain rfl : q = some s := HQ.out.symm
      go_wp2_with fail
      go_ret2
      exact ⟨rfl, HB3.out⟩
    · have hk2 : (k != 3) = true := by simpa using hk
      obtain rfl : q = none := HQ.out.symm.trans (if_neg hk)
      clear hk
      go_wp2_with fail
      go_ret2
      exact ⟨rfl, HB3.out⟩

set_option linter.unusedVariables false in
set_option linter.unusedSimpArgs false in
set_option maxRecDepth 100000 in
set_option maxHeartbeats 1000000 in
theorem numberOf_any (t : List UInt8) (w : World) : Calls Tryd.prog 33 #[.string ⟨t.toArray⟩] w fun e w' => e = .returned (.int .i64 (numOf t)) ∧ w' = w := by
  by_cases h1 : t = [97, 100, 100]
  · subst h1
    go_enter Tryd.func33, Tryd.ntmps33
    go_wp2_with fail
    go_ret
    exact ⟨rfl, rfl⟩
  by_cases h2 : t = [114, 101, 109, 111, 118, 101]
  · subst h2
    go_enter Tryd.func33, Tryd.ntmps33
    go_wp2_with fail
    go_ret
    exact ⟨rfl, rfl⟩
  by_cases h3 : t = [114, 101, 112, 108, 97, 99, 101]
  · subst h3
    go_enter Tryd.func33, Tryd.ntmps33
    go_wp2_with fail
    go_ret
    exact ⟨rfl, rfl⟩
  by_cases h4 : t = [109, 111, 118, 101]
  · subst h4
    go_enter Tryd.func33, Tryd.ntmps33
    go_wp2_with fail
    go_ret
    exact ⟨rfl, rfl⟩
  by_cases h5 : t = [99, 111, 112, 121]
  · subst h5
    go_enter Tryd.func33, Tryd.ntmps33
    go_wp2_with fail
    go_ret
    exact ⟨rfl, rfl⟩
  by_cases h6 : t = [116, 101, 115, 116]
  · subst h6
    go_enter Tryd.func33, Tryd.ntmps33
    go_wp2_with fail
    go_ret
    exact ⟨rfl, rfl⟩
  have HN := Lib.hid (show numOf t = 0 by unfold numOf; simp only [h1, h2, h3, h4, h5, h6, if_false])
  have e1 : (t == [97, 100, 100]) = false := by simpa using h1
  have e2 : (t == [114, 101, 109, 111, 118, 101]) = false := by simpa using h2
  have e3 : (t == [114, 101, 112, 108, 97, 99, 101]) = false := by simpa using h3
  have e4 : (t == [109, 111, 118, 101]) = false := by simpa using h4
  have e5 : (t == [99, 111, 112, 121]) = false := by simpa using h5
  have e6 : (t == [116, 101, 115, 116]) = false := by simpa using h6
  clear h1 h2 h3 h4 h5 h6
  rw [HN.out]
  go_enter Tryd.func33, Tryd.ntmps33
  go_wp2_with fail
  go_ret
  exact ⟨rfl, rfl⟩

/-- What the program's Parse tells, in parts. -/
theorem ParsePostN.parts {t : List UInt8} {w w' : World} {e : Ending} (h : ParsePostN t w e w') (ht : t.length ≤ 100000) :
    ∃ (A : Option Addr) (cp : Nat) (ev : Value), e = .returned (.tuple #[.slice A ((namesOf t).getD []).length cp, ev]) ∧ (((namesOf t).isSome = true ∧ ev = .nilIface) ∨ ((namesOf t).isSome = false ∧ ∃ b, ev = spotV b)) ∧
      Strs (w'.on (w.heap.size ≤ ·)) A ((namesOf t).getD []) ∧ ((namesOf t).getD []).length ≤ cp ∧ cp ≤ maxLen ∧ ((namesOf t).getD []).length ≤ 100000 ∧ Below w.heap.size w w' := by
  obtain ⟨hb, ⟨l, A, hp, rfl, hs⟩ | ⟨p, b, hp, rfl, _⟩⟩ := h
  · have e1 : namesOf t = some l := by unfold namesOf; rw [hp]
    have h2 := (parse_back hp).2
    rw [e1]
    exact ⟨A, l.length, .nilIface, rfl, .inl ⟨rfl, rfl⟩, hs, Nat.le_refl _, by show l.length ≤ maxLen; unfold maxLen; omega, by show l.length ≤ 100000; omega, hb⟩
  · have e1 : namesOf t = none := by unfold namesOf; rw [hp]
    rw [e1]
    exact ⟨none, 0, spotV b, rfl, .inr ⟨rfl, b, rfl⟩, (fun i n h => by simp at h), Nat.le_refl _, Nat.zero_le _, Nat.zero_le _, hb⟩

/-- What pointer tells. -/
def PtrOfPost (r : Option (List (List UInt8))) (w : World) (e : Ending) (w' : World) : Prop :=
  ∃ (A : Option Addr) (cp : Nat), e = .returned (.tuple #[.slice A (r.getD []).length cp, .bool r.isSome]) ∧ Strs (w'.on (w.heap.size ≤ ·)) A (r.getD []) ∧ (r.getD []).length ≤ cp ∧ cp ≤ maxLen ∧ (r.getD []).length ≤ 100000 ∧ Below w.heap.size w w'

set_option linter.unusedVariables false in
set_option linter.unusedSimpArgs false in
set_option maxRecDepth 100000 in
set_option maxHeartbeats 1000000 in
theorem pointer8_any (c : Cl) (v : Vl) (key : List UInt8) (x : Value) (w : World) (hT : MaxT w) (hv : Fit v) (hcl : c.le w.cell?) (hx : v.In c x) :
    Calls Tryd.prog 34 #[x, .string ⟨key.toArray⟩] w (PtrOfPost (ptrOf v key) w) := by
  obtain ⟨k_1, k_2, k_3, k_4, k_5, k_6, k_7, k_8, k_9, k_a, k_b, k_c, rfl⟩ := In.cells hx
  have HB := Lib.hid ((Below.refl w.heap.size w).alloc (Nat.le_refl _) (.cells #[.int .i64 k_1, .bool k_2, .bool k_3, .string ⟨k_4.toArray⟩, .int .i64 k_5, .string ⟨k_6.toArray⟩, .slice k_7 k_8 k_9, .slice k_a k_b k_c] 28))
  have HTX := Lib.hid (text8_any c v key _ (w.alloc (.cells #[.int .i64 k_1, .bool k_2, .bool k_3, .string ⟨k_4.toArray⟩, .int .i64 k_5, .string ⟨k_6.toArray⟩, .slice k_7 k_8 k_9, .slice k_a k_b k_c] 28)) hv (hcl.trans (le_alloc _ _)) hx)
  obtain ⟨r, hr⟩ : ∃ r, textOf v key = r := ⟨_, rfl⟩
  have HTL := Lib.hid (fun t (h : r = some t) => text_len hv (hr.trans h))
  have hP : ptrOf v key = r.bind namesOf := by unfold ptrOf; rw [hr]
  rw [hP]
  rw [hr] at HTX
  have HMT := Lib.hid hT
  obtain ⟨q, hq⟩ : ∃ q, r.bind namesOf = q := ⟨_, rfl⟩
  rw [hq]
  have HQ := Lib.hid hq
  clear hr hP hx hcl hv hT hq
  have HK1 := Lib.hid (Blk.new w 28 #[.int .i64 k_1, .bool k_2, .bool k_3, .string ⟨k_4.toArray⟩, .int .i64 k_5, .string ⟨k_6.toArray⟩, .slice k_7 k_8 k_9, .slice k_a k_b k_c])
  go_enter Tryd.func34, Tryd.ntmps34
  go_upto_region 1 with (fail)
  generalize w.alloc (.cells #[.int .i64 k_1, .bool k_2, .bool k_3, .string ⟨k_4.toArray⟩, .int .i64 k_5, .string ⟨k_6.toArray⟩, .slice k_7 k_8 k_9, .slice k_a k_b k_c] 28) = w1 at *
  obtain ⟨a0, a1, a2, a3, a4, a5, a6, a7⟩ := HK1.out.eight
  go_wp2_with fail
  refine HTX.out.mono ?_
  rintro e w2 ⟨rfl, hb2⟩
  have HB2 := Lib.hid (HB.out.trans (hb2.mono HB.out.size))
  clear hb2 HB HTX
  cases r with
  | none =>
    obtain rfl : q = none := HQ.out.symm
    go_wp2_with fail
    go_ret2
    exact ⟨none, 0, rfl, (fun i n h => by simp at h), Nat.le_refl _, Nat.zero_le _, Nat.zero_le _, HB2.out⟩
  | some t =>
    have ht := HTL.out t rfl
    obtain rfl : q = namesOf t := HQ.out.symm
    have HPP := Lib.hid (ptrParseN_any t w2 (HMT.out.on HB2.out) ht)
    clear HTL
    go_wp2_with fail
    refine HPP.out.mono ?_
    intro e3 w3 h3
    obtain ⟨A, cp, ev, rfl, hev, hs3, hc1, hc2, hc3, hb3⟩ := h3.parts ht
    have HS3 := Lib.hid hs3
    have HB3 := Lib.hid (HB2.out.trans (hb3.mono HB2.out.size))
    have HL2 := Lib.hid HB2.out.size
    generalize namesOf t = q at *
    clear h3 hs3 hb3 HPP
    rcases hev with ⟨hq, rfl⟩ | ⟨hq, b, rfl⟩
    all_goals
      go_upto_region 5 with (fail)
      go_quiet (fail)
      go_wp2_with fail
      go_ret2
      refine ⟨A, cp, ?_, Strs.keep (on_sub (w := w3) (fun b h => Nat.le_trans HL2.out h)) HS3.out, hc1, hc2, hc3, below_drewN HB3.out _⟩
      rw [hq]; rfl

end Go.Proofs.YtkhplaknogalgaaDoor

/- Operations in memory; what the walks of layer 8 (patch) hold of them. -/
namespace Go.Proofs.YtkhplaknogalgaaDoor
open Go.RowKit Pt Js Oq

/-- An operation as it stands in a slot. -/
abbrev opV (op : Int) (A : Option Addr) (n e : Nat) (F : Option Addr) (m d : Nat) (k : Int) (b neg : Bool) (dg : List UInt8) (ex : Int) (s : List UInt8) (lv mv : Value) : Value :=
  .agg #[.int .i64 op, .slice A n e, .slice F m d, .int .i64 k, .bool b, .bool neg, .string ⟨dg.toArray⟩, .int .i64 ex, .string ⟨s.toArray⟩, lv, mv]
/-- An operation lies in memory, and stands so in a slot. -/
def _root_.Go.Proofs.YtkhplaknogalgaaDoor.Oq.Opn.In (c : Cl) (o : Opn) (x : Value) : Prop :=
  ∃ (A : Option Addr) (e : Nat) (F : Option Addr) (d : Nat) (k : Int) (b neg : Bool) (dg : List UInt8) (ex : Int) (s : List UInt8) (A1 : Option Addr) (l1 p1 : Nat) (B1 : Option Addr) (m1 d1 : Nat),
    x = opV o.op A o.path.length e F o.src.length d k b neg dg ex s (.slice A1 l1 p1) (.slice B1 m1 d1) ∧ Strs c A o.path ∧ o.path.length ≤ e ∧ e ≤ maxLen ∧ Strs c F o.src ∧ o.src.length ≤ d ∧ d ≤ maxLen ∧
    o.v.In c (vlV k b neg dg ex s (.slice A1 l1 p1) (.slice B1 m1 d1))
theorem OIn.keep {c c' : Cl} (h : c.le c') {o : Opn} {x : Value} (hx : o.In c x) : o.In c' x := by
  obtain ⟨A, e, F, d, k, b, neg, dg, ex, s, A1, l1, p1, B1, m1, d1, rfl, h1, h2, h3, h4, h5, h6, h7⟩ := hx
  exact ⟨A, e, F, d, k, b, neg, dg, ex, s, A1, l1, p1, B1, m1, d1, rfl, h1.keep h, h2, h3, h4.keep h, h5, h6, In.keep h _ _ h7⟩
/-- What an operation's slot is. -/
theorem OIn.cells {c : Cl} {o : Opn} {x : Value} (hx : o.In c x) : ∃ (op : Int) (A : Option Addr) (n e : Nat) (F : Option Addr) (m d : Nat) (k : Int) (b neg : Bool) (dg : List UInt8) (ex : Int) (s : List UInt8) (A1 : Option Addr) (l1 p1 : Nat) (B1 : Option Addr) (m1 d1 : Nat),
    x = opV op A n e F m d k b neg dg ex s (.slice A1 l1 p1) (.slice B1 m1 d1) := by
  obtain ⟨A, e, F, d, k, b, neg, dg, ex, s, A1, l1, p1, B1, m1, d1, rfl, _⟩ := hx
  exact ⟨_, _, _, _, _, _, _, _, _, _, _, _, _, _, _, _, _, _, _, rfl⟩
/-- An operation of parts that lie in memory. -/
theorem OIn.mk {c : Cl} {op : Nat} {p f : List (List UInt8)} {u : Vl} {A F : Option Addr} {e d : Nat} {k : Int} {b neg : Bool} {dg : List UInt8} {ex : Int} {s : List UInt8} {A1 : Option Addr} {l1 p1 : Nat} {B1 : Option Addr} {m1 d1 : Nat}
    (h1 : Strs c A p) (h2 : p.length ≤ e) (h3 : e ≤ maxLen) (h4 : Strs c F f) (h5 : f.length ≤ d) (h6 : d ≤ maxLen) (h7 : u.In c (vlV k b neg dg ex s (.slice A1 l1 p1) (.slice B1 m1 d1))) :
    (Opn.mk op p f u).In c (opV op A p.length e F f.length d k b neg dg ex s (.slice A1 l1 p1) (.slice B1 m1 d1)) :=
  ⟨A, e, F, d, k, b, neg, dg, ex, s, A1, l1, p1, B1, m1, d1, rfl, h1, h2, h3, h4, h5, h6, h7⟩
abbrev zeroO : Array Value := #[.int .i64 0, .slice none 0 0, .slice none 0 0, .int .i64 0, .bool false, .bool false, .string ⟨#[]⟩, .int .i64 0, .string ⟨#[]⟩, .slice none 0 0, .slice none 0 0]
theorem strs_nil (c : Cl) (A : Option Addr) : Strs c A [] := fun i n h => by simp at h
theorem zeroO_in (c : Cl) : Opn.zero.In c (.agg zeroO) :=
  OIn.mk (op := 0) (p := []) (f := []) (u := Ps.mkN) (strs_nil _ _) (Nat.le_refl _) (Nat.zero_le _) (strs_nil _ _) (Nat.le_refl _) (Nat.zero_le _) (zero_in c)

/-- Eleven parts are stored, one behind the other. -/
abbrev set11 (w : World) (g : Nat) (v0 v1 v2 v3 v4 v5 v6 v7 v8 v9 v10 : Value) : World :=
  ((((((((((w.setCell ⟨g, 0, none⟩ v0).setCell ⟨g, 1, none⟩ v1).setCell ⟨g, 2, none⟩ v2).setCell ⟨g, 3, none⟩ v3).setCell ⟨g, 4, none⟩ v4).setCell ⟨g, 5, none⟩ v5).setCell ⟨g, 6, none⟩ v6).setCell ⟨g, 7, none⟩ v7).setCell ⟨g, 8, none⟩ v8).setCell ⟨g, 9, none⟩ v9).setCell ⟨g, 10, none⟩ v10
theorem Blk.set11 {w : World} {g : Nat} {t : TypeId} {c0 c1 c2 c3 c4 c5 c6 c7 c8 c9 c10 : Value} (h : Blk w g t #[c0, c1, c2, c3, c4, c5, c6, c7, c8, c9, c10]) (v0 v1 v2 v3 v4 v5 v6 v7 v8 v9 v10 : Value) :
    Blk (set11 w g v0 v1 v2 v3 v4 v5 v6 v7 v8 v9 v10) g t #[v0, v1, v2, v3, v4, v5, v6, v7, v8, v9, v10] :=
  have h0 : Blk _ g t [v0, c1, c2, c3, c4, c5, c6, c7, c8, c9, c10].toArray := Blk.setL (l := [c0, c1, c2, c3, c4, c5, c6, c7, c8, c9, c10]) h 0 v0
  have h1 : Blk _ g t [v0, v1, c2, c3, c4, c5, c6, c7, c8, c9, c10].toArray := h0.setL 1 v1
  have h2 : Blk _ g t [v0, v1, v2, c3, c4, c5, c6, c7, c8, c9, c10].toArray := h1.setL 2 v2
  have h3 : Blk _ g t [v0, v1, v2, v3, c4, c5, c6, c7, c8, c9, c10].toArray := h2.setL 3 v3
  have h4 : Blk _ g t [v0, v1, v2, v3, v4, c5, c6, c7, c8, c9, c10].toArray := h3.setL 4 v4
  have h5 : Blk _ g t [v0, v1, v2, v3, v4, v5, c6, c7, c8, c9, c10].toArray := h4.setL 5 v5
  have h6 : Blk _ g t [v0, v1, v2, v3, v4, v5, v6, c7, c8, c9, c10].toArray := h5.setL 6 v6
  have h7 : Blk _ g t [v0, v1, v2, v3, v4, v5, v6, v7, c8, c9, c10].toArray := h6.setL 7 v7
  have h8 : Blk _ g t [v0, v1, v2, v3, v4, v5, v6, v7, v8, c9, c10].toArray := h7.setL 8 v8
  have h9 : Blk _ g t [v0, v1, v2, v3, v4, v5, v6, v7, v8, v9, c10].toArray := h8.setL 9 v9
  h9.setL 10 v10
theorem heap_set11 (w : World) (g : Nat) (v0 v1 v2 v3 v4 v5 v6 v7 v8 v9 v10 : Value) {b : Nat} (hb : b ≠ g) : (set11 w g v0 v1 v2 v3 v4 v5 v6 v7 v8 v9 v10).heap[b]? = w.heap[b]? := by
  simp only [set11, heap_setCell _ _ _ _ hb]
theorem below_set11 {B : Nat} {a w : World} (h : Below B a w) {g : Nat} (hg : B ≤ g) (v0 v1 v2 v3 v4 v5 v6 v7 v8 v9 v10 : Value) : Below B a (set11 w g v0 v1 v2 v3 v4 v5 v6 v7 v8 v9 v10) :=
  ((((((((((h.setCell (p := ⟨g, 0, none⟩) hg v0).setCell (p := ⟨g, 1, none⟩) hg v1).setCell (p := ⟨g, 2, none⟩) hg v2).setCell (p := ⟨g, 3, none⟩) hg v3).setCell (p := ⟨g, 4, none⟩) hg v4).setCell (p := ⟨g, 5, none⟩) hg v5).setCell (p := ⟨g, 6, none⟩) hg v6).setCell (p := ⟨g, 7, none⟩) hg v7).setCell (p := ⟨g, 8, none⟩) hg v8).setCell (p := ⟨g, 9, none⟩) hg v9).setCell (p := ⟨g, 10, none⟩) hg v10
theorem Blk.eleven {w : World} {g : Nat} {t : TypeId} {c0 c1 c2 c3 c4 c5 c6 c7 c8 c9 c10 : Value} (h : Blk w g t #[c0, c1, c2, c3, c4, c5, c6, c7, c8, c9, c10]) :
    w.cell? ⟨g, 0, none⟩ = some c0 ∧ w.cell? ⟨g, 1, none⟩ = some c1 ∧ w.cell? ⟨g, 2, none⟩ = some c2 ∧ w.cell? ⟨g, 3, none⟩ = some c3 ∧ w.cell? ⟨g, 4, none⟩ = some c4 ∧ w.cell? ⟨g, 5, none⟩ = some c5 ∧ w.cell? ⟨g, 6, none⟩ = some c6 ∧ w.cell? ⟨g, 7, none⟩ = some c7 ∧ w.cell? ⟨g, 8, none⟩ = some c8 ∧ w.cell? ⟨g, 9, none⟩ = some c9 ∧ w.cell? ⟨g, 10, none⟩ = some c10 :=
  ⟨h.cell 0, h.cell 1, h.cell 2, h.cell 3, h.cell 4, h.cell 5, h.cell 6, h.cell 7, h.cell 8, h.cell 9, h.cell 10⟩

/-- Eight parts are stored behind the first three. -/
abbrev setV (w : World) (g : Nat) (v0 v1 v2 v3 v4 v5 v6 v7 : Value) : World :=
  (((((((w.setCell ⟨g, 3, none⟩ v0).setCell ⟨g, 4, none⟩ v1).setCell ⟨g, 5, none⟩ v2).setCell ⟨g, 6, none⟩ v3).setCell ⟨g, 7, none⟩ v4).setCell ⟨g, 8, none⟩ v5).setCell ⟨g, 9, none⟩ v6).setCell ⟨g, 10, none⟩ v7
theorem heap_setV (w : World) (g : Nat) (v0 v1 v2 v3 v4 v5 v6 v7 : Value) {b : Nat} (hb : b ≠ g) : (setV w g v0 v1 v2 v3 v4 v5 v6 v7).heap[b]? = w.heap[b]? := by
  simp only [setV, heap_setCell _ _ _ _ hb]
theorem below_setV {B : Nat} {a w : World} (h : Below B a w) {g : Nat} (hg : B ≤ g) (v0 v1 v2 v3 v4 v5 v6 v7 : Value) : Below B a (setV w g v0 v1 v2 v3 v4 v5 v6 v7) :=
  (((((((h.setCell (p := ⟨g, 3, none⟩) hg v0).setCell (p := ⟨g, 4, none⟩) hg v1).setCell (p := ⟨g, 5, none⟩) hg v2).setCell (p := ⟨g, 6, none⟩) hg v3).setCell (p := ⟨g, 7, none⟩) hg v4).setCell (p := ⟨g, 8, none⟩) hg v5).setCell (p := ⟨g, 9, none⟩) hg v6).setCell (p := ⟨g, 10, none⟩) hg v7
theorem Blk.setV {w : World} {g : Nat} {t : TypeId} {c0 c1 c2 c3 c4 c5 c6 c7 c8 c9 c10 : Value} (h : Blk w g t #[c0, c1, c2, c3, c4, c5, c6, c7, c8, c9, c10]) (v0 v1 v2 v3 v4 v5 v6 v7 : Value) :
    Blk (setV w g v0 v1 v2 v3 v4 v5 v6 v7) g t #[c0, c1, c2, v0, v1, v2, v3, v4, v5, v6, v7] :=
  have h3 : Blk _ g t [c0, c1, c2, v0, c4, c5, c6, c7, c8, c9, c10].toArray := Blk.setL (l := [c0, c1, c2, c3, c4, c5, c6, c7, c8, c9, c10]) h 3 v0
  have h4 : Blk _ g t [c0, c1, c2, v0, v1, c5, c6, c7, c8, c9, c10].toArray := h3.setL 4 v1
  have h5 : Blk _ g t [c0, c1, c2, v0, v1, v2, c6, c7, c8, c9, c10].toArray := h4.setL 5 v2
  have h6 : Blk _ g t [c0, c1, c2, v0, v1, v2, v3, c7, c8, c9, c10].toArray := h5.setL 6 v3
  have h7 : Blk _ g t [c0, c1, c2, v0, v1, v2, v3, v4, c8, c9, c10].toArray := h6.setL 7 v4
  have h8 : Blk _ g t [c0, c1, c2, v0, v1, v2, v3, v4, v5, c9, c10].toArray := h7.setL 8 v5
  have h9 : Blk _ g t [c0, c1, c2, v0, v1, v2, v3, v4, v5, v6, c10].toArray := h8.setL 9 v6
  h9.setL 10 v7
theorem Blk.farV {w : World} {g h : Nat} {t : TypeId} {cs : Array Value} (hb : Blk w g t cs) (hn : g ≠ h) (v0 v1 v2 v3 v4 v5 v6 v7 : Value) : Blk (Go.Proofs.YtkhplaknogalgaaDoor.setV w h v0 v1 v2 v3 v4 v5 v6 v7) g t cs := by
  unfold Blk
  rw [heap_setV _ _ _ _ _ _ _ _ _ _ hn]
  exact hb

/-- What the reading of a value as an operation tells. -/
def OpPost (S : Nat → Prop) (r : Option Opn) (w : World) (e : Ending) (w' : World) : Prop :=
  ∃ (o : Opn) (y : Value), e = .returned (.tuple #[y, .bool r.isSome]) ∧ (∀ q, r = some q → o = q) ∧ o.In (w'.on fun b => S b ∨ w.heap.size ≤ b) y ∧ Below w.heap.size w w'
theorem OpPost.no {S : Nat → Prop} {r : Option Opn} {w w' : World} (h : r = none) (hb : Below w.heap.size w w') : OpPost S r w (.returned (.tuple #[.agg zeroO, .bool false])) w' := by
  subst h; exact ⟨Opn.zero, _, rfl, (fun q h => by cases h), zeroO_in _, hb⟩
theorem OpPost.fin {S : Nat → Prop} {r : Option Opn} {o : Opn} {bb : Bool} {y : Value} {w w' : World} (hb : r.isSome = bb) (ho : ∀ q, r = some q → o = q) (hi : o.In (w'.on fun b => S b ∨ w.heap.size ≤ b) y) (hB : Below w.heap.size w w') :
    OpPost S r w (.returned (.tuple #[y, .bool bb])) w' := ⟨o, y, by rw [hb], ho, hi, hB⟩

/-- What operation holds on its way: the value, the result, the operation that is filled. -/
structure Op8 (w : World) (S : Nat → Prop) (g6 : Nat) (V R O : Array Value) (wr : World) : Prop where
  v : Blk wr w.heap.size 28 V
  r : Blk wr (w.heap.size + 1) 48 R
  o : Blk wr g6 48 O
  e6 : w.heap.size + 2 ≤ g6
  below : Below w.heap.size w wr
  hS : ∀ b, S b → b < w.heap.size
section
variable {w wr w' : World} {S : Nat → Prop} {g6 : Nat} {V R O : Array Value}
theorem Op8.on (h : Op8 w S g6 V R O wr) (hb : Below wr.heap.size wr w') : Op8 w S g6 V R O w' := ⟨h.v.on hb, h.r.on hb, h.o.on hb, h.e6, h.below.trans (hb.mono h.below.size), h.hS⟩
theorem Op8.set1 {c0 c1 c2 c3 c4 c5 c6 c7 c8 c9 c10 : Value} (h : Op8 w S g6 V R #[c0, c1, c2, c3, c4, c5, c6, c7, c8, c9, c10] wr) (u : Value) : Op8 w S g6 V R #[c0, u, c2, c3, c4, c5, c6, c7, c8, c9, c10] (wr.setCell ⟨g6, 1, none⟩ u) :=
  ⟨h.v.far (by have := h.e6; omega), h.r.far (by have := h.e6; omega), Blk.setL (l := [c0, c1, c2, c3, c4, c5, c6, c7, c8, c9, c10]) h.o 1 u, h.e6, h.below.setCell (p := ⟨g6, 1, none⟩) (by have := h.e6; simp; omega) u, h.hS⟩
theorem Op8.set2 {c0 c1 c2 c3 c4 c5 c6 c7 c8 c9 c10 : Value} (h : Op8 w S g6 V R #[c0, c1, c2, c3, c4, c5, c6, c7, c8, c9, c10] wr) (u : Value) : Op8 w S g6 V R #[c0, c1, u, c3, c4, c5, c6, c7, c8, c9, c10] (wr.setCell ⟨g6, 2, none⟩ u) :=
  ⟨h.v.far (by have := h.e6; omega), h.r.far (by have := h.e6; omega), Blk.setL (l := [c0, c1, c2, c3, c4, c5, c6, c7, c8, c9, c10]) h.o 2 u, h.e6, h.below.setCell (p := ⟨g6, 2, none⟩) (by have := h.e6; simp; omega) u, h.hS⟩
theorem Op8.setV {c0 c1 c2 c3 c4 c5 c6 c7 c8 c9 c10 : Value} (h : Op8 w S g6 V R #[c0, c1, c2, c3, c4, c5, c6, c7, c8, c9, c10] wr) (v0 v1 v2 v3 v4 v5 v6 v7 : Value) : Op8 w S g6 V R #[c0, c1, c2, v0, v1, v2, v3, v4, v5, v6, v7] (setV wr g6 v0 v1 v2 v3 v4 v5 v6 v7) :=
  ⟨h.v.farV (by have := h.e6; omega) _ _ _ _ _ _ _ _, h.r.farV (by have := h.e6; omega) _ _ _ _ _ _ _ _, h.o.setV _ _ _ _ _ _ _ _, h.e6, below_setV h.below (by have := h.e6; omega) _ _ _ _ _ _ _ _, h.hS⟩
/-- What is read of old blocks, and of such as are newer than the operation's own. -/
theorem Op8.le (_h : Op8 w S g6 V R O wr) (hb : Below wr.heap.size wr w') : Cl.le (wr.on fun b => S b ∨ g6 < b) (w'.on fun b => S b ∨ g6 < b) := on_keep (fun _ h _ => h) (fun b _ h2 => hb.block b h2)
theorem Op8.leSet (h : Op8 w S g6 V R O wr) (i : Nat) (u : Value) : Cl.le (wr.on fun b => S b ∨ g6 < b) ((wr.setCell ⟨g6, i, none⟩ u).on fun b => S b ∨ g6 < b) :=
  on_keep (fun _ h _ => h) (fun b hb _ => heap_setCell _ _ _ _ (by have := h.e6; rcases hb with k | k; have := h.hS b k; omega; omega))
theorem Op8.leSetV (h : Op8 w S g6 V R O wr) (v0 v1 v2 v3 v4 v5 v6 v7 : Value) : Cl.le (wr.on fun b => S b ∨ g6 < b) ((Go.Proofs.YtkhplaknogalgaaDoor.setV wr g6 v0 v1 v2 v3 v4 v5 v6 v7).on fun b => S b ∨ g6 < b) :=
  on_keep (fun _ h _ => h) (fun b hb _ => heap_setV _ _ _ _ _ _ _ _ _ _ (by have := h.e6; rcases hb with k | k; have := h.hS b k; omega; omega))
theorem Op8.leFin (h : Op8 w S g6 V R O wr) (v0 v1 v2 v3 v4 v5 v6 v7 v8 v9 v10 : Value) : Cl.le (wr.on fun b => S b ∨ g6 < b) ((set11 wr (w.heap.size + 1) v0 v1 v2 v3 v4 v5 v6 v7 v8 v9 v10).on fun b => S b ∨ w.heap.size ≤ b) :=
  on_keep (fun b hb _ => hb.imp id (fun k => by have := h.e6; omega)) (fun b hb _ => heap_set11 _ _ _ _ _ _ _ _ _ _ _ _ _ (by have := h.e6; rcases hb with k | k; have := h.hS b k; omega; omega))
theorem Op8.leV (h : Op8 w S g6 V R O wr) : Cl.le (w.on S) (wr.on fun b => S b ∨ g6 < b) := on_keep (fun _ h _ => .inl h) (fun b _ h2 => h.below.block b h2)
theorem Op8.new (h : Op8 w S g6 V R O wr) (_hb : Below wr.heap.size wr w') : Cl.le (w'.on (wr.heap.size ≤ ·)) (w'.on fun b => S b ∨ g6 < b) := on_sub fun b k => .inr (by have := h.o.lt; omega)
end
theorem opn_text_none {v : Vl} (h : textOf v kOp = none) : opn v = none := by unfold opn; rw [h]; rfl
theorem opn_num_none {v : Vl} {t : List UInt8} (h : textOf v kOp = some t) (h0 : numOf t = 0) : opn v = none := by unfold opn; rw [h]; simp [h0]
theorem opn_ptr {v : Vl} {t : List UInt8} (h : textOf v kOp = some t) (h0 : numOf t ≠ 0) : opn v = (ptrOf v kPath).bind fun p => restOf v (numOf t) p := by unfold opn; rw [h]; simp [h0]

end Go.Proofs.YtkhplaknogalgaaDoor

/- The walks of layer 8 (patch): the program's operation. -/
namespace Go.Proofs.YtkhplaknogalgaaDoor
open Go.RowKit Pt Js Oq

set_option linter.unusedVariables false in
set_option linter.unusedSimpArgs false in
set_option maxRecDepth 100000 in
set_option maxHeartbeats 8000000 in
theorem operation_any (S : Nat → Prop) (v : Vl) (x : Value) (w : World) (hT : MaxT w) (hS : ∀ b, S b → b < w.heap.size) (hv : Fit v) (hx : v.In (w.on S) x) :
    Calls Tryd.prog 17 #[x] w (OpPost S (opn v) w) := by
  have HX := Lib.hid hx
  obtain ⟨k_1, k_2, k_3, k_4, k_5, k_6, k_7, k_8, k_9, k_a, k_b, k_c, rfl⟩ := In.cells hx
  have hcl := le_on w S
  have HB0 := Lib.hid (below_two0 w (.cells #[.int .i64 k_1, .bool k_2, .bool k_3, .string ⟨k_4.toArray⟩, .int .i64 k_5, .string ⟨k_6.toArray⟩, .slice k_7 k_8 k_9, .slice k_a k_b k_c] 28) (.cells zeroO 48))
  have HK0 := Lib.hid ((Blk.new w 28 #[.int .i64 k_1, .bool k_2, .bool k_3, .string ⟨k_4.toArray⟩, .int .i64 k_5, .string ⟨k_6.toArray⟩, .slice k_7 k_8 k_9, .slice k_a k_b k_c]).alloc (.cells zeroO 48))
  have HR0 := Lib.hid (Blk.new2 w (.cells #[.int .i64 k_1, .bool k_2, .bool k_3, .string ⟨k_4.toArray⟩, .int .i64 k_5, .string ⟨k_6.toArray⟩, .slice k_7 k_8 k_9, .slice k_a k_b k_c] 28) 48 zeroO)
  have HMT := Lib.hid hT
  have HS := Lib.hid hS
  have HV := Lib.hid hv
  have HCL := Lib.hid hcl
  clear hx hcl hS hT hv
  go_enter Tryd.func17, Tryd.ntmps17
  have hs0 : w.heap.size + 2 ≤ ((w.alloc (.cells #[.int .i64 k_1, .bool k_2, .bool k_3, .string ⟨k_4.toArray⟩, .int .i64 k_5, .string ⟨k_6.toArray⟩, .slice k_7 k_8 k_9, .slice k_a k_b k_c] 28)).alloc (.cells zeroO 48)).heap.size := by simp
  go_upto_region 1 with (fail)
  generalize (w.alloc (.cells #[.int .i64 k_1, .bool k_2, .bool k_3, .string ⟨k_4.toArray⟩, .int .i64 k_5, .string ⟨k_6.toArray⟩, .slice k_7 k_8 k_9, .slice k_a k_b k_c] 28)).alloc (.cells zeroO 48) = w0 at *
  have HT1 := Lib.hid (text8_any _ v kOp _ w0 HV.out (HCL.out.trans (le_below HB0.out)) HX.out)
  obtain ⟨r1, hr1⟩ : ∃ r, textOf v kOp = r := ⟨_, rfl⟩
  have HR1 := Lib.hid hr1
  rw [hr1] at HT1
  clear hr1
  obtain ⟨a0, a1, a2, a3, a4, a5, a6, a7⟩ := HK0.out.eight
  go_wp2_with fail
  refine HT1.out.mono ?_
  rintro e1 w1 ⟨rfl, hb1⟩
  have HB1 := Lib.hid (HB0.out.trans (hb1.mono HB0.out.size))
  have HSZ := Lib.hid (Nat.le_trans hs0 hb1.size)
  clear hs0
  have HK1 := Lib.hid (HK0.out.on hb1)
  have HRR1 := Lib.hid (HR0.out.on hb1)
  clear hb1 HB0 HK0 HR0 HT1 a0 a1 a2 a3 a4 a5 a6 a7
  obtain ⟨z0, z1, z2, z3, z4, z5, z6, z7, z8, z9, z10⟩ := HRR1.out.eleven
  have zf := HRR1.out.frozen
  have zl := HRR1.out.lt
  cases r1 with
  | none =>
    have HN := Lib.hid (opn_text_none HR1.out)
    go_wp2_with fail
    refine bodyPost_ret (results_row (l := [_, _, _, _, _, _, _, _, _, _, _]) rfl _ _ _ rfl (HRR1.out.set11 _ _ _ _ _ _ _ _ _ _ _) Tryd.underlying48 rfl (by kernel_rfl)) rfl ?_
    exact OpPost.no HN.out (below_set11 HB1.out (by omega) _ _ _ _ _ _ _ _ _ _ _)
  | some t =>
    obtain ⟨q, hq⟩ : ∃ q, numOf t = q := ⟨_, rfl⟩
    have HQ := Lib.hid hq
    have HNO := Lib.hid (numberOf_any t w1)
    rw [hq] at HNO
    clear hq
    have hs1 := HSZ.out
    have HE2 := Lib.hid (show Op8 w S w1.heap.size #[.int .i64 k_1, .bool k_2, .bool k_3, .string ⟨k_4.toArray⟩, .int .i64 k_5, .string ⟨k_6.toArray⟩, .slice k_7 k_8 k_9, .slice k_a k_b k_c] zeroO #[.int .i64 q, .slice none 0 0, .slice none 0 0, .int .i64 0, .bool false, .bool false, .string ⟨#[]⟩, .int .i64 0, .string ⟨#[]⟩, .slice none 0 0, .slice none 0 0] (w1.alloc (.cells #[.int .i64 q, .slice none 0 0, .slice none 0 0, .int .i64 0, .bool false, .bool false, .string ⟨#[]⟩, .int .i64 0, .string ⟨#[]⟩, .slice none 0 0, .slice none 0 0] 48))
      from ⟨HK1.out.alloc _, HRR1.out.alloc _, Blk.new _ _ _, hs1, HB1.out.alloc HB1.out.size _, HS.out⟩)
    clear HB1 HK1 HRR1 z0 z1 z2 z3 z4 z5 z6 z7 z8 z9 z10 zf zl
    go_wp2_with fail
    refine HNO.out.mono ?_
    rintro e2 w1' ⟨rfl, rfl⟩
    go_upto_region 5 with (fail)
    generalize w1'.alloc (.cells #[.int .i64 q, .slice none 0 0, .slice none 0 0, .int .i64 0, .bool false, .bool false, .string ⟨#[]⟩, .int .i64 0, .string ⟨#[]⟩, .slice none 0 0, .slice none 0 0] 48) = w2 at *
    generalize w1'.heap.size = g6 at *
    obtain ⟨z0, z1, z2, z3, z4, z5, z6, z7, z8, z9, z10⟩ := HE2.out.r.eleven
    have zf := HE2.out.r.frozen
    have zl := HE2.out.r.lt
    have o0 := HE2.out.o.cell 0
    by_cases hq0 : q = 0
    · have HN := Lib.hid (opn_num_none HR1.out (HQ.out.trans hq0))
      have hqb : ((q : Int) == 0) = true := by rw [hq0]; rfl
      clear hq0
      go_wp2_with fail
      refine bodyPost_ret (results_row (l := [_, _, _, _, _, _, _, _, _, _, _]) rfl _ _ _ rfl (HE2.out.r.set11 _ _ _ _ _ _ _ _ _ _ _) Tryd.underlying48 rfl (by kernel_rfl)) rfl ?_
      exact OpPost.no HN.out (below_set11 HE2.out.below (by omega) _ _ _ _ _ _ _ _ _ _ _)
    have hqb : ((q : Int) == 0) = false := by rw [beq_eq_false_iff_ne]; omega
    have HOP := Lib.hid (show opn v = (ptrOf v kPath).bind fun p => restOf v q p by rw [← HQ.out]; exact opn_ptr HR1.out (by rw [HQ.out]; exact hq0))
    have hq6 : q ≤ 6 := by rw [← HQ.out]; exact numOf_le t
    clear HR1 HQ HNO
    have HPT := Lib.hid (pointer8_any _ v kPath _ w2 (HMT.out.on HE2.out.below) HV.out (HCL.out.trans (le_below HE2.out.below)) HX.out)
    obtain ⟨r2, hr2⟩ : ∃ r, ptrOf v kPath = r := ⟨_, rfl⟩
    rw [hr2] at HPT HOP
    clear hr2
    obtain ⟨a0, a1, a2, a3, a4, a5, a6, a7⟩ := HE2.out.v.eight
    go_wp2_with fail
    refine HPT.out.mono ?_
    rintro e3 w3 ⟨A, cp, rfl, hsA, hcA, hcm, hll, hb3⟩
    have HE3 := Lib.hid (HE2.out.on hb3)
    have HSA := Lib.hid (hsA.keep (HE2.out.new hb3))
    clear hsA hb3 HPT z0 z1 z2 z3 z4 z5 z6 z7 z8 z9 z10 zf zl o0 a0 a1 a2 a3 a4 a5 a6 a7
    obtain ⟨o0, o1, o2, o3, o4, o5, o6, o7, o8, o9, o10⟩ := HE3.out.o.eleven
    have of := HE3.out.o.frozen
    have ol := HE3.out.o.lt
    have HE4 := Lib.hid (HE3.out.set1 (.slice A (r2.getD []).length cp))
    have HSA4 := Lib.hid (HSA.out.keep (HE3.out.leSet 1 (.slice A (r2.getD []).length cp)))
    clear HE2
    go_upto_region 8 with (fail)
    generalize w3.setCell ⟨g6, 1, none⟩ (.slice A (r2.getD []).length cp) = w4 at *
    clear HE3 HSA o0 o1 o2 o3 o4 o5 o6 o7 o8 o9 o10 of ol
    obtain ⟨z0, z1, z2, z3, z4, z5, z6, z7, z8, z9, z10⟩ := HE4.out.r.eleven
    have zf := HE4.out.r.frozen
    have zl := HE4.out.r.lt
    cases r2 with
    | none =>
      have HN := Lib.hid (show opn v = none from HOP.out)
      go_wp2_with fail
      refine bodyPost_ret (results_row (l := [_, _, _, _, _, _, _, _, _, _, _]) rfl _ _ _ rfl (HE4.out.r.set11 _ _ _ _ _ _ _ _ _ _ _) Tryd.underlying48 rfl (by kernel_rfl)) rfl ?_
      exact OpPost.no HN.out (below_set11 HE4.out.below (by omega) _ _ _ _ _ _ _ _ _ _ _)
    | some p =>
      simp only [Option.getD_some, Option.isSome_some] at HE4 HSA4 hcA hll ⊢
      have HOQ := Lib.hid (show opn v = restOf v q p from HOP.out)
      clear HOP
      obtain ⟨o0, o1, o2, o3, o4, o5, o6, o7, o8, o9, o10⟩ := HE4.out.o.eleven
      have of := HE4.out.o.frozen
      have ol := HE4.out.o.lt
      obtain ⟨a0, a1, a2, a3, a4, a5, a6, a7⟩ := HE4.out.v.eight
      have hways : (q = 4 ∨ q = 5) ∨ q = 2 ∨ (q = 1 ∨ q = 3 ∨ q = 6) := by omega
      rcases hways with hw | hw | hw
      · -- move, copy
        have HRE := Lib.hid (show restOf v q p = (ptrOf v kFrom).map fun f => ⟨q, p, f, Ps.mkN⟩ from if_pos hw)
        have HPF := Lib.hid (pointer8_any _ v kFrom _ w4 (HMT.out.on HE4.out.below) HV.out (HCL.out.trans (le_below HE4.out.below)) HX.out)
        obtain ⟨r3, hr3⟩ : ∃ r, ptrOf v kFrom = r := ⟨_, rfl⟩
        rw [hr3] at HPF HRE
        clear hr3
        have hqw : (((q : Int) == 4) = true) ∨ (((q : Int) == 4) = false ∧ ((q : Int) == 5) = true) := by
          rcases hw with rfl | rfl
          · exact .inl rfl
          · exact .inr ⟨rfl, rfl⟩
        clear hw
        rcases hqw with b4 | ⟨b4, b5⟩
        all_goals
          go_wp2_with fail
          refine HPF.out.mono ?_
          rintro e5 w5 ⟨F, cf, rfl, hsF, hcF, hcfm, hlf, hb5⟩
          have HE5 := Lib.hid (HE4.out.on hb5)
          have HSF := Lib.hid (hsF.keep (HE4.out.new hb5))
          have HSA5 := Lib.hid (HSA4.out.keep (HE4.out.le hb5))
          clear hsF hb5 HPF HE4 HSA4 z0 z1 z2 z3 z4 z5 z6 z7 z8 z9 z10 zf zl o0 o1 o2 o3 o4 o5 o6 o7 o8 o9 o10 of ol a0 a1 a2 a3 a4 a5 a6 a7
          obtain ⟨o0, o1, o2, o3, o4, o5, o6, o7, o8, o9, o10⟩ := HE5.out.o.eleven
          have of := HE5.out.o.frozen
          have ol := HE5.out.o.lt
          have HE6 := Lib.hid (HE5.out.set2 (.slice F (r3.getD []).length cf))
          have HSA6 := Lib.hid (HSA5.out.keep (HE5.out.leSet 2 (.slice F (r3.getD []).length cf)))
          have HSF6 := Lib.hid (HSF.out.keep (HE5.out.leSet 2 (.slice F (r3.getD []).length cf)))
          go_upto_region 18 with (fail)
          generalize w5.setCell ⟨g6, 2, none⟩ (.slice F (r3.getD []).length cf) = w6 at *
          clear HE5 HSA5 HSF o0 o1 o2 o3 o4 o5 o6 o7 o8 o9 o10 of ol
          obtain ⟨o0, o1, o2, o3, o4, o5, o6, o7, o8, o9, o10⟩ := HE6.out.o.eleven
          obtain ⟨z0, z1, z2, z3, z4, z5, z6, z7, z8, z9, z10⟩ := HE6.out.r.eleven
          have zf := HE6.out.r.frozen
          have zl := HE6.out.r.lt
          go_wp2_with fail
          refine bodyPost_ret (results_row (l := [_, _, _, _, _, _, _, _, _, _, _]) rfl _ _ _ rfl (HE6.out.r.set11 _ _ _ _ _ _ _ _ _ _ _) Tryd.underlying48 rfl (by kernel_rfl)) rfl ?_
          refine OpPost.fin (o := ⟨q, p, r3.getD [], Ps.mkN⟩) (by rw [HOQ.out, HRE.out, Option.isSome_map]) (fun o h => by rw [HOQ.out, HRE.out] at h; obtain ⟨f, rfl, rfl⟩ := Option.map_eq_some_iff.1 h; rfl)
            (OIn.keep (HE6.out.leFin _ _ _ _ _ _ _ _ _ _ _) (OIn.mk HSA6.out hcA hcm HSF6.out hcF hcfm (zero_in _))) (below_set11 HE6.out.below (by omega) _ _ _ _ _ _ _ _ _ _ _)
      · -- remove
        have HRE := Lib.hid (show restOf v q p = some ⟨q, p, [], Ps.mkN⟩ by unfold restOf; rw [if_neg (by omega), if_pos hw])
        have b4 : ((q : Int) == 4) = false := by rw [beq_eq_false_iff_ne]; omega
        have b5 : ((q : Int) == 5) = false := by rw [beq_eq_false_iff_ne]; omega
        have b1 : ((q : Int) == 1) = false := by rw [beq_eq_false_iff_ne]; omega
        have b3 : ((q : Int) == 3) = false := by rw [beq_eq_false_iff_ne]; omega
        have b6 : ((q : Int) == 6) = false := by rw [beq_eq_false_iff_ne]; omega
        clear hw
        go_wp2_with fail
        refine bodyPost_ret (results_row (l := [_, _, _, _, _, _, _, _, _, _, _]) rfl _ _ _ rfl (HE4.out.r.set11 _ _ _ _ _ _ _ _ _ _ _) Tryd.underlying48 rfl (by kernel_rfl)) rfl ?_
        refine OpPost.fin (o := ⟨q, p, [], Ps.mkN⟩) (by rw [HOQ.out, HRE.out]; rfl) (fun o h => by rw [HOQ.out, HRE.out] at h; injection h)
          (OIn.keep (HE4.out.leFin _ _ _ _ _ _ _ _ _ _ _) (OIn.mk (f := []) HSA4.out hcA hcm (strs_nil _ _) (Nat.le_refl _) (Nat.zero_le _) (zero_in _))) (below_set11 HE4.out.below (by omega) _ _ _ _ _ _ _ _ _ _ _)
      · -- add, replace, test
        have HRE := Lib.hid (show restOf v q p = (v.find kValue).map fun u => ⟨q, p, [], u⟩ by unfold restOf; rw [if_neg (by omega), if_neg (by omega)])
        have HFI := Lib.hid (findC_any _ v kValue _ w4 (by obtain ⟨c1, c2, c3, c4, c5, c6, rfl, hr⟩ := fit_rises HV.out; exact hr) (by have := HV.out.size; omega) (HCL.out.trans (le_below HE4.out.below)) HX.out)
        obtain ⟨r3, hr3⟩ : ∃ r, v.find kValue = r := ⟨_, rfl⟩
        rw [hr3] at HFI HRE
        clear hr3
        have b4 : ((q : Int) == 4) = false := by rw [beq_eq_false_iff_ne]; omega
        have b5 : ((q : Int) == 5) = false := by rw [beq_eq_false_iff_ne]; omega
        have hqw : (((q : Int) == 1) = true) ∨ (((q : Int) == 1) = false ∧ ((q : Int) == 3) = true) ∨ (((q : Int) == 1) = false ∧ ((q : Int) == 3) = false ∧ ((q : Int) == 6) = true) := by
          rcases hw with rfl | rfl | rfl
          · exact .inl rfl
          · exact .inr (.inl ⟨rfl, rfl⟩)
          · exact .inr (.inr ⟨rfl, rfl, rfl⟩)
        clear hw
        rcases hqw with b1 | ⟨b1, b3⟩ | ⟨b1, b3, b6⟩
        all_goals
          go_wp2_with fail
          refine HFI.out.mono ?_
          rintro e5 w5 ⟨y5, rfl, hy5, hb5⟩
          obtain ⟨j_1, j_2, j_3, j_4, j_5, j_6, j_7, j_8, j_9, j_a, j_b, j_c, rfl⟩ := In.cells hy5
          have HE5 := Lib.hid (HE4.out.on hb5)
          have HY5 := Lib.hid (In.keep HE5.out.leV (r3.getD Ps.mkN) _ hy5)
          have HSA5 := Lib.hid (HSA4.out.keep (HE4.out.le hb5))
          clear hy5 hb5 HFI HE4 HSA4 z0 z1 z2 z3 z4 z5 z6 z7 z8 z9 z10 zf zl o0 o1 o2 o3 o4 o5 o6 o7 o8 o9 o10 of ol a0 a1 a2 a3 a4 a5 a6 a7
          obtain ⟨o0, o1, o2, o3, o4, o5, o6, o7, o8, o9, o10⟩ := HE5.out.o.eleven
          have of := HE5.out.o.frozen
          have ol := HE5.out.o.lt
          have HE6 := HE5.out.setV (.int .i64 j_1) (.bool j_2) (.bool j_3) (.string ⟨j_4.toArray⟩) (.int .i64 j_5) (.string ⟨j_6.toArray⟩) (.slice j_7 j_8 j_9) (.slice j_a j_b j_c)
          have HSA6 := HSA5.out.keep (HE5.out.leSetV (.int .i64 j_1) (.bool j_2) (.bool j_3) (.string ⟨j_4.toArray⟩) (.int .i64 j_5) (.string ⟨j_6.toArray⟩) (.slice j_7 j_8 j_9) (.slice j_a j_b j_c))
          have HY6 := In.keep (HE5.out.leSetV (.int .i64 j_1) (.bool j_2) (.bool j_3) (.string ⟨j_4.toArray⟩) (.int .i64 j_5) (.string ⟨j_6.toArray⟩) (.slice j_7 j_8 j_9) (.slice j_a j_b j_c)) _ _ HY5.out
          obtain ⟨w6, hw6⟩ : ∃ W, W = setV w5 g6 (.int .i64 j_1) (.bool j_2) (.bool j_3) (.string ⟨j_4.toArray⟩) (.int .i64 j_5) (.string ⟨j_6.toArray⟩) (.slice j_7 j_8 j_9) (.slice j_a j_b j_c) := ⟨_, rfl⟩
          rw [← hw6] at HE6 HSA6 HY6
          have HW6 := Lib.hid hw6
          have HE6 := Lib.hid HE6
          have HSA6 := Lib.hid HSA6
          have HY6 := Lib.hid HY6
          clear hw6
          go_upto_region 18 with (fail)
          rw [show ((((((((w5.setCell ⟨g6, 3, none⟩ (.int .i64 j_1)).setCell ⟨g6, 4, none⟩ (.bool j_2)).setCell ⟨g6, 5, none⟩ (.bool j_3)).setCell ⟨g6, 6, none⟩ (.string ⟨j_4.toArray⟩)).setCell ⟨g6, 7, none⟩ (.int .i64 j_5)).setCell ⟨g6, 8, none⟩ (.string ⟨j_6.toArray⟩)).setCell ⟨g6, 9, none⟩ (.slice j_7 j_8 j_9)).setCell ⟨g6, 10, none⟩ (.slice j_a j_b j_c)) = w6 from HW6.out.symm]
          clear HW6 HE5 HSA5 HY5 o0 o1 o2 o3 o4 o5 o6 o7 o8 o9 o10 of ol
          obtain ⟨o0, o1, o2, o3, o4, o5, o6, o7, o8, o9, o10⟩ := HE6.out.o.eleven
          obtain ⟨z0, z1, z2, z3, z4, z5, z6, z7, z8, z9, z10⟩ := HE6.out.r.eleven
          have zf := HE6.out.r.frozen
          have zl := HE6.out.r.lt
          go_wp2_with fail
          refine bodyPost_ret (results_row (l := [_, _, _, _, _, _, _, _, _, _, _]) rfl _ _ _ rfl (HE6.out.r.set11 _ _ _ _ _ _ _ _ _ _ _) Tryd.underlying48 rfl (by kernel_rfl)) rfl ?_
          refine OpPost.fin (o := ⟨q, p, [], r3.getD Ps.mkN⟩) (by rw [HOQ.out, HRE.out, Option.isSome_map]) (fun o h => by rw [HOQ.out, HRE.out] at h; obtain ⟨f, rfl, rfl⟩ := Option.map_eq_some_iff.1 h; rfl)
            (OIn.keep (HE6.out.leFin _ _ _ _ _ _ _ _ _ _ _) (OIn.mk (f := []) HSA6.out hcA hcm (strs_nil _ _) (Nat.le_refl _) (Nat.zero_le _) HY6.out)) (below_set11 HE6.out.below (by omega) _ _ _ _ _ _ _ _ _ _ _)

end Go.Proofs.YtkhplaknogalgaaDoor

/- The walks of layer 8 (patch): the program's Read. -/
namespace Go.Proofs.YtkhplaknogalgaaDoor
open Go.RowKit Pt Js Oq

/-- Parts of a row are stored, one behind the other. -/
def putL : List Value → Nat → List Value → List Value
  | cs, _, [] => cs
  | cs, o, v :: r => putL (cs.set o v) (o + 1) r
theorem putL_length (vs : List Value) : ∀ (cs : List Value) (o : Nat), (putL cs o vs).length = cs.length := by
  induction vs with
  | nil => intro cs o; rfl
  | cons v r ih => intro cs o; show (putL (cs.set o v) (o + 1) r).length = _; rw [ih, List.length_set]
theorem putL_off (vs : List Value) : ∀ (cs : List Value) (o : Nat) {k : Nat}, (k < o ∨ o + vs.length ≤ k) → (putL cs o vs)[k]? = cs[k]? := by
  induction vs with
  | nil => intro cs o k _; rfl
  | cons v r ih =>
    intro cs o k h
    rw [List.length_cons] at h
    show (putL (cs.set o v) (o + 1) r)[k]? = _
    rw [ih _ _ (by omega), List.getElem?_set_ne (by omega)]
theorem putL_at (vs : List Value) : ∀ (cs : List Value) (o : Nat) {i : Nat} {u : Value}, o + vs.length ≤ cs.length → vs[i]? = some u → (putL cs o vs)[o + i]? = some u := by
  induction vs with
  | nil => intro cs o i u _ h; simp at h
  | cons v r ih =>
    intro cs o i u h hu
    rw [List.length_cons] at h
    show (putL (cs.set o v) (o + 1) r)[o + i]? = _
    cases i with
    | zero =>
      simp at hu
      subst hu
      rw [putL_off _ _ _ (.inl (by omega)), Nat.add_zero, List.getElem?_set_self (by omega)]
    | succ i =>
      rw [show o + (i + 1) = o + 1 + i by omega]
      exact ih _ _ (by rw [List.length_set]; omega) (by simpa using hu)
theorem Blk.setCells {g : Nat} {t : TypeId} (vs : List Value) : ∀ {w : World} {cs : List Value} {o : Nat}, Blk w g t cs.toArray → Blk (w.setCells g o vs) g t (putL cs o vs).toArray := by
  induction vs with
  | nil => intro w cs o h; exact h
  | cons v r ih => intro w cs o h; exact ih (h.setL o v)
theorem heap_setCells {g : Nat} (vs : List Value) : ∀ (w : World) (o : Nat) {b : Nat}, b ≠ g → (w.setCells g o vs).heap[b]? = w.heap[b]? := by
  induction vs with
  | nil => intro w o b h; rfl
  | cons v r ih => intro w o b h; exact (ih _ _ h).trans (heap_setCell _ _ _ _ h)
theorem below_setCells {B g : Nat} {a : World} (hg : B ≤ g) (vs : List Value) : ∀ {w : World} {o : Nat}, Below B a w → Below B a (w.setCells g o vs) := by
  induction vs with
  | nil => intro w o h; exact h
  | cons v r ih => intro w o h; exact ih (h.setCell (p := ⟨g, o, none⟩) hg v)

/-- A slice of operations lies in memory. -/
def SlO (c : Cl) (A : Option Addr) (l : List Opn) : Prop := ∀ i o, l[i]? = some o → ∃ g off y, A = some ⟨g, off, none⟩ ∧ o.In c y ∧ CellsAt c g (off + i * 11) y
theorem SlO.keep {c c' : Cl} (h : c.le c') {A : Option Addr} {l : List Opn} (hs : SlO c A l) : SlO c' A l := fun i o hi => by
  obtain ⟨g, off, y, h1, h2, h3⟩ := hs i o hi
  exact ⟨g, off, y, h1, OIn.keep h h2, h3.keep h⟩
theorem slO_nil (c : Cl) (A : Option Addr) : SlO c A [] := fun i o h => by simp at h
/-- What the program's Read tells. -/
def ReadPost (S : Nat → Prop) (r : Oq.Rd) (w : World) (e : Ending) (w' : World) : Prop :=
  Below w.heap.size w w' ∧ ((∃ (l : List Opn) (A : Option Addr) (cp : Nat), r = .ok l ∧ e = .returned (.tuple #[.slice A l.length cp, .nilIface]) ∧ SlO (w'.on fun b => S b ∨ w.heap.size ≤ b) A l ∧ l.length ≤ cp ∧ cp ≤ maxLen) ∨
    (∃ (c i b : Nat), r = .bad c i ∧ e = .returned (.tuple #[.slice none 0 0, spotV b]) ∧ SpotAt w' b i c))

/-- How far Read has come. -/
structure Rowing (S : Nat → Prop) (w : World) (l : List Vl) (g j : Nat) (acc : List Opn) (cs : List Value) (wr : World) : Prop where
  hj : j ≤ l.length
  blk : Blk wr g 48 cs.toArray
  len : cs.length = l.length * 11
  below : Below w.heap.size w wr
  hg : w.heap.size < g
  map : (l.take j).map opn = acc.map some
  items : ∀ (i : Nat) o, acc[i]? = some o → ∃ y : Value, o.In (wr.on fun b => S b ∨ g < b) y ∧ ∀ (k : Nat) u, y.cells[k]? = some u → cs[i * 11 + k]? = some u
  hS : ∀ b, S b → b < w.heap.size
def Reading8 (S : Nat → Prop) (w : World) (l : List Vl) (g : Nat) (v : Value) (wr : World) : Prop :=
  ∃ (j : Nat) (acc : List Opn) (cs : List Value), v = .int .i64 j ∧ Rowing S w l g j acc cs wr
section
variable {S : Nat → Prop} {w : World} {l : List Vl} {g j : Nat} {acc : List Opn} {cs : List Value} {wr w' : World}
theorem Rowing.acc_len (h : Rowing S w l g j acc cs wr) : acc.length = j := by
  have := map_len h.map
  rw [List.length_take] at this
  have := h.hj
  omega
theorem Rowing.on (h : Rowing S w l g j acc cs wr) (hb : Below wr.heap.size wr w') : Rowing S w l g j acc cs w' :=
  ⟨h.hj, h.blk.on hb, h.len, h.below.trans (hb.mono h.below.size), h.hg, h.map, fun i o hi => by
    obtain ⟨y, h1, h2⟩ := h.items i o hi
    exact ⟨y, OIn.keep (on_keep (fun _ h _ => h) (fun b _ h2 => hb.block b h2)) h1, h2⟩, h.hS⟩
/-- One operation more. -/
theorem Rowing.next (h : Rowing S w l g j acc cs wr) (hlt : j < l.length) {o : Opn} (ho : opn l[j] = some o) {ys : Array Value} (hys : ys.size = 11)
    (hy : o.In (wr.on fun b => S b ∨ g < b) (.agg ys)) :
    Rowing S w l g (j + 1) (acc ++ [o]) (putL cs (j * 11) ys.toList) (wr.setCells g (j * 11) ys.toList) := by
  have hal := h.acc_len
  have hyl : ys.toList.length = 11 := by simpa using hys
  have hle : Cl.le (wr.on fun b => S b ∨ g < b) ((wr.setCells g (j * 11) ys.toList).on fun b => S b ∨ g < b) :=
    on_keep (fun _ h _ => h) (fun b hb _ => heap_setCells _ _ _ (by have := h.hg; rcases hb with k | k; have := h.hS b k; omega; omega))
  have hcl : j * 11 + 11 ≤ cs.length := by have := h.len; omega
  refine ⟨hlt, h.blk.setCells _, by rw [putL_length]; exact h.len, below_setCells (by have := h.hg; omega) _ h.below, h.hg, map_take hlt h.map ho, fun i q hi => ?_, h.hS⟩
  by_cases hil : i < acc.length
  · rw [List.getElem?_append_left hil] at hi
    obtain ⟨y, h1, h2⟩ := h.items i q hi
    refine ⟨y, OIn.keep hle h1, fun k u hu => ?_⟩
    have hk : k < 11 := by
      obtain ⟨a1, a2, a3, a4, a5, a6, a7, a8, a9, aa, ab, ac, ad, ae, af, ag, rfl, _⟩ := h1
      have := (Array.getElem?_eq_some_iff.1 hu).1
      simpa [Value.cells] using this
    rw [putL_off _ _ _ (.inl (by omega))]
    exact h2 k u hu
  · have hi0 : i = acc.length := by
      have := (List.getElem?_eq_some_iff.1 hi).1
      rw [List.length_append, List.length_singleton] at this; omega
    subst hi0
    rw [List.getElem?_append_right (Nat.le_refl _)] at hi
    simp at hi
    subst hi
    refine ⟨_, OIn.keep hle hy, fun k u hu => ?_⟩
    rw [hal]
    exact putL_at _ _ _ (by omega) (by simpa [Value.cells] using hu)
theorem Rowing.there (h : Rowing S w l g j acc cs wr) (hlt : j < l.length) : wr.there g (j * 11) 11 := fun k hk => by
  have := h.len
  refine ⟨?_, h.blk.frozen _⟩
  rw [h.blk.cell, List.getElem?_toArray, List.getElem?_eq_getElem (by omega)]; rfl
/-- The operations as they lie. -/
theorem Rowing.fin (h : Rowing S w l g j acc cs wr) : SlO (wr.on fun b => S b ∨ w.heap.size ≤ b) (some ⟨g, 0, none⟩) acc := fun i o hi => by
  obtain ⟨y, h1, h2⟩ := h.items i o hi
  have hg := h.hg
  refine ⟨g, 0, y, rfl, OIn.keep (on_sub fun b k => k.imp id (fun k => by omega)) h1, fun k u hu => ?_⟩
  rw [Nat.zero_add]
  exact on_some.2 ⟨.inr (by show w.heap.size ≤ g; omega), by rw [h.blk.cell, List.getElem?_toArray]; exact h2 k u hu⟩
end
theorem infoO : ∃ i, Tryd.prog.info? 48 = some i ∧ i.zero = some (.agg zeroO) ∧ i.size = 11 ∧ i.bytes = 168 := by
  have h : (Tryd.prog.info? 48).map (fun i => (i.zero, i.size, i.bytes)) = some (some (.agg zeroO), 11, 168) := by kernel_rfl
  cases hq : Tryd.prog.info? 48 with
  | none => rw [hq] at h; cases h
  | some i =>
    rw [hq] at h
    simp only [Option.map_some, Option.some.injEq, Prod.mk.injEq] at h
    exact ⟨i, rfl, h.1, h.2.1, h.2.2⟩

set_option linter.unusedVariables false in
set_option linter.unusedSimpArgs false in
set_option maxRecDepth 100000 in
set_option maxHeartbeats 4000000 in
theorem read8_any (S : Nat → Prop) (v : Vl) (x : Value) (w : World) (hT : MaxT w) (hS : ∀ b, S b → b < w.heap.size) (hv : Fit v) (hx : v.In (w.on S) x) :
    Calls Tryd.prog 7 #[x] w (ReadPost S (read v) w) := by
  obtain ⟨k, b, n, s, l, m⟩ := v
  obtain ⟨A, e, B, d, rfl, q1, q2, q3, q4, q5, q6⟩ := In.form hx
  have HL := Lib.hid (show SlL (w.on S) A l from q5)
  have HMT := Lib.hid hT
  have HS := Lib.hid hS
  have HV := Lib.hid hv
  have HB0 := Lib.hid ((Below.refl w.heap.size w).alloc (Nat.le_refl _) (.cells #[.int .i64 k, .bool b, .bool n.neg, .string ⟨n.digits.toArray⟩, .int .i64 n.exp, .string ⟨s.toArray⟩, .slice A l.length e, .slice B m.length d] 28))
  have HK0 := Lib.hid (Blk.new w 28 #[.int .i64 k, .bool b, .bool n.neg, .string ⟨n.digits.toArray⟩, .int .i64 n.exp, .string ⟨s.toArray⟩, .slice A l.length e, .slice B m.length d])
  have hs0 : w.heap.size + 1 ≤ (w.alloc (.cells #[.int .i64 k, .bool b, .bool n.neg, .string ⟨n.digits.toArray⟩, .int .i64 n.exp, .string ⟨s.toArray⟩, .slice A l.length e, .slice B m.length d] 28)).heap.size := by simp
  have HRM := Lib.hid (read_mk k b n s l m)
  unfold maxLen at q2 q4
  clear q5 q6 hx hT hS hv
  go_enter Tryd.func7, Tryd.ntmps7
  go_upto_region 1 with (fail)
  generalize w.alloc (.cells #[.int .i64 k, .bool b, .bool n.neg, .string ⟨n.digits.toArray⟩, .int .i64 n.exp, .string ⟨s.toArray⟩, .slice A l.length e, .slice B m.length d] 28) = w0 at *
  obtain ⟨a0, a1, a2, a3, a4, a5, a6, a7⟩ := HK0.out.eight
  by_cases hk : k = 4
  · by_cases hbig : 100 < l.length
    · have HR := Lib.hid (show read (.mk k b n s l m) = .bad 5 100 by rw [HRM.out, if_pos hk, if_pos hbig])
      have hkb : (k != 4) = false := by simpa using hk
      have hlb : decide ((100 : Int) < (l.length : Int)) = true := by simp; omega
      clear hk
      go_wp2_with fail
      go_ret2
      exact ⟨HB0.out.alloc HB0.out.size _, .inr ⟨5, 100, w0.heap.size, HR.out, rfl, by simp, by simp⟩⟩
    · subst hk
      have hlb : decide ((100 : Int) < (l.length : Int)) = false := by simp; omega
      obtain ⟨i0, hi0, hz0, hz1, hz2⟩ := infoO
      have hmk : ∀ W : World, (Instr.makeSlice 31 (.int .i64 (l.length : Int)) (.int .i64 (l.length : Int))).run Tryd.prog W = .ok (.slice (some ⟨W.heap.size, 0, none⟩) l.length l.length) (W.alloc (.cells (madeCells zeroO (l.length * 11)) 48)) := fun W => by
        have := run_make (P := Tryd.prog) W 31 48 i0 (.agg zeroO) Tryd.underlying31 hi0 hz0 .i64 .i64 l.length l.length (by omega) (Int.le_refl _) (by rw [hz2]; omega) (by omega)
        rw [hz1] at this
        simp only [Int.toNat_natCast] at this
        exact this
      have HROW := Lib.hid (show Rowing S w l w0.heap.size 0 [] (madeCells zeroO (l.length * 11)).toList (w0.alloc (.cells (madeCells zeroO (l.length * 11)) 48)) from
        ⟨Nat.zero_le _, by simpa using Blk.new w0 48 (madeCells zeroO (l.length * 11)), by rw [Array.length_toList, size_madeCells], HB0.out.alloc HB0.out.size _, hs0, rfl, (fun i o h => by simp at h), HS.out⟩)
      have HK1 := Lib.hid (HK0.out.alloc (.cells (madeCells zeroO (l.length * 11)) 48))
      go_upto_region 6 with (fail)
      generalize w0.alloc (.cells (madeCells zeroO (l.length * 11)) 48) = w1 at *
      generalize w0.heap.size = g at *
      have HRO := Lib.hid (show ∀ r : List Opn, l.map opn = r.map some → read (.mk 4 b n s l m) = .ok r from fun r h => read_ok (by omega) h)
      have HRS := Lib.hid (show ∀ (j : Nat) (hj : j < l.length) (a : List Opn), (l.take j).map opn = a.map some → opn (l[j]'hj) = none → read (.mk 4 b n s l m) = .bad 1 j from fun j hj a h h2 => read_stop (by omega) hj h h2)
      clear HRM HB0 hmk hs0 hi0 hz0 hz1 hz2 a0 a1 a2 a3 a4 a5 a6 a7
      obtain ⟨a0, a1, a2, a3, a4, a5, a6, a7⟩ := HK1.out.eight
      go_wp2_with fail
      go_loopw [29] (Reading8 S w l g) (fun i _ => l.length - (intOf i).toNat)
      case atStart => exact ⟨0, [], _, rfl, HROW.out⟩
      case round =>
        obtain ⟨j, acc, cs, rfl, hR⟩ := hrel
        have HR := Lib.hid hR
        have hj := hR.hj
        clear hR HROW HK0 HK1 a0 a1 a2 a3 a4 a5 a6 a7
        by_cases hlt : j < l.length
        · obtain ⟨g0, o0, y, rfl, hy, hc⟩ := HL.out j _ (List.getElem?_eq_getElem hlt)
          obtain ⟨y_1, y_2, y_3, y_4, y_5, y_6, y_7, y_8, y_9, y_a, y_b, y_c, rfl⟩ := In.cells hy
          obtain ⟨e0, e1, e2, e3, e4, e5, e6, e7⟩ := (hc.keep ((on_all w S).trans (le_below HR.out.below))).eight
          have hgl := World.block_lt_of_cell? _ _ e0
          have hglt := HR.out.blk.lt
          have HB2 := Lib.hid ((Below.refl wr.heap.size wr).alloc (Nat.le_refl _) (.cells #[.int .i64 y_1, .bool y_2, .bool y_3, .string ⟨y_4.toArray⟩, .int .i64 y_5, .string ⟨y_6.toArray⟩, .slice y_7 y_8 y_9, .slice y_a y_b y_c] 28))
          have HS2 := Lib.hid (show ∀ b, S b → b < (wr.alloc (.cells #[.int .i64 y_1, .bool y_2, .bool y_3, .string ⟨y_4.toArray⟩, .int .i64 y_5, .string ⟨y_6.toArray⟩, .slice y_7 y_8 y_9, .slice y_a y_b y_c] 28)).heap.size from fun b hb => Nat.lt_of_lt_of_le (HS.out b hb) (Nat.le_trans HR.out.below.size HB2.out.size))
          have HK2 := Lib.hid (Blk.new wr 28 #[.int .i64 y_1, .bool y_2, .bool y_3, .string ⟨y_4.toArray⟩, .int .i64 y_5, .string ⟨y_6.toArray⟩, .slice y_7 y_8 y_9, .slice y_a y_b y_c])
          have HOP := Lib.hid (operation_any S (l[j]'hlt) _ (wr.alloc (.cells #[.int .i64 y_1, .bool y_2, .bool y_3, .string ⟨y_4.toArray⟩, .int .i64 y_5, .string ⟨y_6.toArray⟩, .slice y_7 y_8 y_9, .slice y_a y_b y_c] 28)) (HMT.out.on (HR.out.below.trans (HB2.out.mono HR.out.below.size))) HS2.out (fit_el HV.out (List.getElem_mem hlt))
            (In.keep (on_keep (fun _ h _ => h) (fun b' _ h2 => (HR.out.below.trans (HB2.out.mono HR.out.below.size)).block b' h2)) _ _ hy))
          obtain ⟨r, hr⟩ : ∃ r, opn (l[j]'hlt) = r := ⟨_, rfl⟩
          have HRR := Lib.hid hr
          rw [hr] at HOP
          clear hr hy hc
          go_upto_region 9 with (fail)
          generalize wr.alloc (.cells #[.int .i64 y_1, .bool y_2, .bool y_3, .string ⟨y_4.toArray⟩, .int .i64 y_5, .string ⟨y_6.toArray⟩, .slice y_7 y_8 y_9, .slice y_a y_b y_c] 28) = w2 at *
          obtain ⟨a0, a1, a2, a3, a4, a5, a6, a7⟩ := HK2.out.eight
          go_wp2_with fail
          refine HOP.out.mono ?_
          rintro e3 w3 ⟨o, y3, rfl, ho, hoi, hb3⟩
          obtain ⟨o_o, o_p, o_q, o_r, o_s, o_t, o_u, o_1, o_2, o_3, o_4, o_5, o_6, o_7, o_8, o_9, o_a, o_b, o_c, rfl⟩ := OIn.cells hoi
          have hb4 := (Below.refl w3.heap.size w3).alloc (Nat.le_refl _) (.cells #[.int .i64 o_o, .slice o_p o_q o_r, .slice o_s o_t o_u, .int .i64 o_1, .bool o_2, .bool o_3, .string ⟨o_4.toArray⟩, .int .i64 o_5, .string ⟨o_6.toArray⟩, .slice o_7 o_8 o_9, .slice o_a o_b o_c] 48)
          have HRW4 := Lib.hid (((HR.out.on HB2.out).on hb3).on hb4)
          have HOI4 := Lib.hid (show o.In ((w3.alloc (.cells #[.int .i64 o_o, .slice o_p o_q o_r, .slice o_s o_t o_u, .int .i64 o_1, .bool o_2, .bool o_3, .string ⟨o_4.toArray⟩, .int .i64 o_5, .string ⟨o_6.toArray⟩, .slice o_7 o_8 o_9, .slice o_a o_b o_c] 48)).on fun b => S b ∨ g < b) _ from OIn.keep (on_keep (S' := fun b => S b ∨ g < b) (fun b h _ => h.imp id (fun h => Nat.lt_of_lt_of_le hglt (Nat.le_trans HB2.out.size h))) (fun b' _ h2 => hb4.block b' h2)) hoi)
          have HO4 := Lib.hid (Blk.new w3 48 #[.int .i64 o_o, .slice o_p o_q o_r, .slice o_s o_t o_u, .int .i64 o_1, .bool o_2, .bool o_3, .string ⟨o_4.toArray⟩, .int .i64 o_5, .string ⟨o_6.toArray⟩, .slice o_7 o_8 o_9, .slice o_a o_b o_c])
          have HHO := Lib.hid ho
          clear hoi ho hb3 hb4 HOP a0 a1 a2 a3 a4 a5 a6 a7 e0 e1 e2 e3 e4 e5 e6 e7 hgl
          go_upto_region 10 with (fail)
          generalize w3.alloc (.cells #[.int .i64 o_o, .slice o_p o_q o_r, .slice o_s o_t o_u, .int .i64 o_1, .bool o_2, .bool o_3, .string ⟨o_4.toArray⟩, .int .i64 o_5, .string ⟨o_6.toArray⟩, .slice o_7 o_8 o_9, .slice o_a o_b o_c] 48) = w4 at *
          generalize w3.heap.size = g7 at *
          cases r with
          | none =>
            have HF := Lib.hid (HRS.out j hlt acc HRW4.out.map HRR.out)
            have hb4 := HRW4.out.below
            have HB4 := Lib.hid hb4
            clear hb4
            go_wp2_with fail
            go_ret2
            exact ⟨HB4.out.alloc HB4.out.size _, .inr ⟨1, j, w4.heap.size, HF.out, rfl, by simp, by simp⟩⟩
          | some q =>
            obtain rfl := HHO.out q rfl
            have hj1 : (j : Int) < (l.length : Int) := by omega
            obtain ⟨c0, c1, c2, c3, c4, c5, c6, c7, c8, c9, c10⟩ := HO4.out.eleven
            have rl := HRW4.out.blk.lt
            have rf := HRW4.out.blk.frozen
            have HTH := Lib.hid (HRW4.out.there hlt)
            have HNX := HRW4.out.next hlt HRR.out (ys := #[.int .i64 o_o, .slice o_p o_q o_r, .slice o_s o_t o_u, .int .i64 o_1, .bool o_2, .bool o_3, .string ⟨o_4.toArray⟩, .int .i64 o_5, .string ⟨o_6.toArray⟩, .slice o_7 o_8 o_9, .slice o_a o_b o_c]) rfl HOI4.out
            obtain ⟨w5, hw5⟩ : ∃ W, W = w4.setCells g (j * 11) (#[.int .i64 o_o, .slice o_p o_q o_r, .slice o_s o_t o_u, .int .i64 o_1, .bool o_2, .bool o_3, .string ⟨o_4.toArray⟩, .int .i64 o_5, .string ⟨o_6.toArray⟩, .slice o_7 o_8 o_9, .slice o_a o_b o_c] : Array Value).toList := ⟨_, rfl⟩
            rw [← hw5] at HNX
            have HNX := Lib.hid HNX
            have HW5 := Lib.hid hw5
            clear hw5
            go_upto_region 12 with (fail)
            iterate 13 go_step
            refine wpList_store_mid rfl _ _ _ rfl g (j * 11) #[.int .i64 o_o, .slice o_p o_q o_r, .slice o_s o_t o_u, .int .i64 o_1, .bool o_2, .bool o_3, .string ⟨o_4.toArray⟩, .int .i64 o_5, .string ⟨o_6.toArray⟩, .slice o_7 o_8 o_9, .slice o_a o_b o_c] rfl rfl HTH.out (by kernel_rfl) (by simp [Value.oneCell']) ?_
            rw [← HW5.out]
            go_wp2_with fail
            go_roundw
            case rel => exact ⟨j + 1, acc ++ [o], _, by go_num, HNX.out⟩
            case measure => simp [intOf]; omega
        · obtain rfl : j = l.length := by omega
          have HF := Lib.hid (HRO.out acc (by have := HR.out.map; rwa [List.take_length] at this))
          have HAL := Lib.hid HR.out.acc_len
          go_wp2_with fail
          go_ret2
          exact ⟨HR.out.below, .inl ⟨acc, some ⟨g, 0, none⟩, l.length, HF.out, by rw [HAL.out]; rfl, HR.out.fin, by rw [HAL.out]; exact Nat.le_refl _, by unfold maxLen; omega⟩⟩
  · have HR := Lib.hid (show read (.mk k b n s l m) = .bad 1 0 by rw [HRM.out, if_neg hk])
    have hkb : (k != 4) = true := by simpa using hk
    clear hk
    go_wp2_with fail
    go_ret2
    exact ⟨HB0.out.alloc HB0.out.size _, .inr ⟨1, 0, w0.heap.size, HR.out, rfl, by simp, by simp⟩⟩

end Go.Proofs.YtkhplaknogalgaaDoor


