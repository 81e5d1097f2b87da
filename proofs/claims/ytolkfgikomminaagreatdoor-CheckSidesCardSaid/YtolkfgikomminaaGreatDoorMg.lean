/- Mg: Vj Vk, in one text. -/
import Derived.Test.YtolkfgikomminaaGreatDoorRows
import Derived.Test.YtolkfgikomminaaGreatDoorVb
import Derived.Test.YtolkfgikomminaaGreatDoorShelf
import Derived.WalkKit
import Derived.WalkSpells
import Derived.WalkLawsBesides
import Derived.Deep.QuietTactic
import Derived.BigQuiet
import Derived.RegionTactic
namespace Go.Proofs.YtolkfgikomminaaGreatDoor
open Go.RowKit Js

set_option maxRecDepth 100000 in
set_option maxHeartbeats 2000000 in
theorem cmpKey_any (mk key : List UInt8) (k1 : Int) (b1 n1 : Bool) (g1 : List UInt8) (x1 : Int) (s1 : List UInt8) (A1 : Option Addr) (l1 p1 : Nat) (B1 : Option Addr) (m1 d1 : Nat) (w : World) :
  Calls Tryz.prog 88 #[.agg #[.string ⟨mk.toArray⟩, .int .i64 k1, .bool b1, .bool n1, .string ⟨g1.toArray⟩, .int .i64 x1, .string ⟨s1.toArray⟩, .slice A1 l1 p1, .slice B1 m1 d1], .string ⟨key.toArray⟩] w
   fun e w' => e = .returned (.int .i64 (Lib.compareBytes mk key)) ∧ Below w.heap.size w w' := by
 go_enter Tryz.func88, Tryz.ntmps88
 go_wp2_with fail
 refine (Tryz.strings_Compare _ _ _).mono ?_
 rintro e w1 ⟨rfl, rfl⟩
 have hb : Below w.heap.size w (w.alloc (.cells #[.string ⟨mk.toArray⟩, .int .i64 k1, .bool b1, .bool n1, .string ⟨g1.toArray⟩, .int .i64 x1, .string ⟨s1.toArray⟩, .slice A1 l1 p1, .slice B1 m1 d1] 91)) := (Below.refl _ _).alloc (Nat.le_refl _) _
 go_wp2_with fail
 go_ret
 exact ⟨rfl, hb⟩

def SearchPost (m : List Js.Mem) (key : List UInt8) (w : World) (e : Ending) (w' : World) : Prop :=
 ∃ (i : Nat) (b : Bool), e = .returned (.tuple #[.int .i64 i, .bool b]) ∧ Js.Found m key i b ∧ Below w.heap.size w w'
def Searching (m : List Js.Mem) (key : List UInt8) (w : World) (iv jv : Value) (wr : World) : Prop :=
 ∃ i j : Nat, iv = .int .i64 i ∧ jv = .int .i64 j ∧ Halving m key i j ∧ Below w.heap.size w wr

set_option linter.unusedVariables false in
set_option maxRecDepth 100000 in
set_option maxHeartbeats 2000000 in
theorem search_any (m : List Js.Mem) (key : List UInt8) (B : Option Addr) (d : Nat) (w : World) (hr : rises (m.map (·.1)) = true) (hd : m.length ≤ d) (hm : d ≤ maxLen) (hl : m.length ≤ 1000000000000) (hs : SlM w.cell? B m) :
  Calls Tryz.prog 87 #[.slice B m.length d, .string ⟨key.toArray⟩, .func (.func 88) #[] #[]] w (SearchPost m key w) := by
 unfold maxLen at hm
 have HS := Lib.hid hs
 have HR := Lib.hid hr
 clear hs hr
 go_enter Tryz.func87, Tryz.ntmps87
 go_wp2_with fail
 go_loopw [9, 10] (Searching m key w) (fun i j _ => (intOf j).toNat - (intOf i).toNat)
 case atStart => exact ⟨0, m.length, rfl, rfl, Halving.start _ _, Below.refl _ _⟩
 case round =>
  obtain ⟨i, j, rfl, rfl, hH, hW⟩ := hrel
  have hij := hH.1
  have hjm := hH.2.1
  have HH := Lib.hid hH
  clear hH
  by_cases hlt : i < j
  ·obtain ⟨h, hh⟩ : ∃ h : Nat, h = (i + j) / 2 := ⟨_, rfl⟩
   have hhi : i ≤ h := by omega
   have hhj : h < j := by omega
   have hmid : ((i : Int) + (j : Int)) / 2 = (h : Int) := by omega
   have hwr : IntKind.u64.wrap ((i : Int) + (j : Int)) = (i : Int) + (j : Int) := by rw [IntKind.wrap_u64]; omega
   clear hh
   have hhm : h < m.length := by omega
   have hp := List.getElem?_eq_getElem hhm
   obtain ⟨g, o, y, rfl, hy, hk, hc⟩ := HS.out h _ hp
   obtain ⟨k1, b1, n1, g1, x1, s1, A1, l1, p1, B1, m1, d1, rfl⟩ := In.cells hy
   have hle : Cl.le w.cell? wr.cell? := le_below hW
   have ek := hle _ _ hk
   obtain ⟨e0, e1, e2, e3, e4, e5, e6, e7⟩ := (hc.keep hle).eight
   have HP := Lib.hid hp
   have HUP := Lib.hid (fun hc => HH.out.up HR.out hhi hhj hp hc)
   have HDN := Lib.hid (fun hc => HH.out.down HR.out hhi hhj hp hc)
   have HC := Lib.hid (fun W => cmpKey_any m[h].1 key k1 b1 n1 g1 x1 s1 A1 l1 p1 B1 m1 d1 W)
   have hrg := Nm.bytes_range m[h].1 key
   clear hp hy hk hc hle
   generalize Lib.compareBytes m[h].1 key = q at *
   generalize m[h].1 = mk at *
   go_wp2_with fail
   refine (HC.out _).mono ?_
   rintro e' w2 ⟨rfl, hb2⟩
   have hb := hW.trans (hb2.mono hW.size)
   by_cases hq : q = -1
   ·have hq0 : decide (q < 0) = true := by simp; omega
    have HN := Lib.hid (HUP.out hq)
    clear hq
    go_wp2_with fail
    go_roundw
    case rel => exact ⟨h + 1, j, by go_num, rfl, HN.out, hb⟩
    case measure => simp [intOf]; omega
   ·have hq0 : decide (q < 0) = false := by simp; omega
    have HN := Lib.hid (HDN.out hq)
    clear hq
    go_wp2_with fail
    go_roundw
    case rel => exact ⟨i, h, rfl, rfl, HN.out, hb⟩
    case measure => simp [intOf]; omega
  ·obtain rfl : i = j := by omega
   by_cases hi : i < m.length
   ·have hp := List.getElem?_eq_getElem hi
    obtain ⟨g, o, y, rfl, hy, hk, hc⟩ := HS.out i _ hp
    obtain ⟨k1, b1, n1, g1, x1, s1, A1, l1, p1, B1, m1, d1, rfl⟩ := In.cells hy
    have hle : Cl.le w.cell? wr.cell? := le_below hW
    have ek := hle _ _ hk
    obtain ⟨e0, e1, e2, e3, e4, e5, e6, e7⟩ := (hc.keep hle).eight
    have HF := Lib.hid (HH.out.done HR.out hp)
    have HC := Lib.hid (fun W => cmpKey_any m[i].1 key k1 b1 n1 g1 x1 s1 A1 l1 p1 B1 m1 d1 W)
    clear hp hy hk hc hle
    generalize Lib.compareBytes m[i].1 key = q at *
    generalize m[i].1 = mk at *
    go_wp2_with fail
    refine (HC.out _).mono ?_
    rintro e' w2 ⟨rfl, hb2⟩
    have hb := hW.trans (hb2.mono hW.size)
    go_wp2_with fail
    go_ret2
    exact ⟨i, _, rfl, HF.out, hb⟩
   ·have hi' : decide (i < m.length) = false := by simpa using hi
    have HF := Lib.hid (HH.out.none_ (by omega))
    go_wp2_with fail
    go_ret2
    exact ⟨i, _, rfl, HF.out, hW⟩
abbrev zeroV : Value := vlV 0 false false [] 0 [] (.slice none 0 0) (.slice none 0 0)
abbrev Js.none0 : Vl := .mk 0 false ⟨false, [], 0⟩ [] [] []
theorem zero_in (c : Cl) : none0.In c zeroV := by
 simp only [Vl.In]
 exact ⟨none, 0, none, 0, rfl, Nat.le_refl _, by simp [maxLen], Nat.le_refl _, by simp [maxLen], fun h => absurd h (by simp), fun h => absurd h (by simp)⟩

def FindPost (r : Option Vl) (w : World) (e : Ending) (w' : World) : Prop :=
 ∃ x, e = .returned (.tuple #[x, .bool r.isSome]) ∧ (r.getD none0).In w'.cell? x ∧ Below w.heap.size w w'

theorem FindPost.no {r : Option Vl} {w w' : World} (h : r = none) (hb : Below w.heap.size w w') : FindPost r w (.returned (.tuple #[zeroV, .bool false])) w' := by
 subst h; exact ⟨_, rfl, zero_in _, hb⟩
theorem FindPost.yes {r : Option Vl} {u : Vl} {w w' : World} {x : Value} (h : r = some u) (hx : u.In w'.cell? x) (hb : Below w.heap.size w w') : FindPost r w (.returned (.tuple #[x, .bool true])) w' := by
 subst h; exact ⟨_, rfl, hx, hb⟩

set_option linter.unusedVariables false in
set_option linter.unusedSimpArgs false in
set_option maxRecDepth 100000 in
set_option maxHeartbeats 2000000 in
theorem find_any (v : Vl) (key : List UInt8) (x : Value) (w : World) (hv : v.may = true) (hsz : v.size ≤ 1000000000000) (hx : v.In w.cell? x) :
  Calls Tryz.prog 61 #[x, .string ⟨key.toArray⟩] w (FindPost (v.find key) w) := by
 obtain ⟨k, b, n, s, l, m⟩ := v
 obtain ⟨A, e, B, d, rfl, q1, q2, q3, q4, q5, q6⟩ := In.form hx
 obtain ⟨-, -, -, -, -, -, -, -, -, -, -, hr⟩ := may_own hv
 have H6 := Lib.hid (show SlM w.cell? B m from q6)
 have hml : m.length ≤ 1000000000000 := by have := sizeM_len m; simp only [Vl.size] at hsz; omega
 have HB2 : Below w.heap.size w _ := (((Below.refl _ _).alloc (Nat.le_refl _) (.cells #[.int .i64 k, .bool b, .bool n.neg, .string ⟨n.digits.toArray⟩, .int .i64 n.exp, .string ⟨s.toArray⟩, .slice A l.length e, .slice B m.length d] 31)).alloc (by simp) (.cells #[.int .i64 0, .bool false, .bool false, .string ⟨#[]⟩, .int .i64 0, .string ⟨#[]⟩, .slice none 0 0, .slice none 0 0] 31))
 clear q5 q6 hx hv
 by_cases hk : k = 5
 ·subst hk
  have HS := Lib.hid (fun W hs => search_any m key B d W hr q3 q4 hml hs)
  have HSL := Lib.hid (H6.out.keep (le_below HB2))
  have HF := Lib.hid (show (Vl.mk 5 b n s l m).find key = Js.find m key from by simp [Vl.find])
  have HR := Lib.hid hr
  clear hr
  unfold maxLen at q2 q4
  go_enter Tryz.func61, Tryz.ntmps61
  go_wp2_with fail
  refine (HS.out _ HSL.out).mono ?_
  rintro e' w2 ⟨i, bb, rfl, hfd, hb2⟩
  have hb := HB2.trans (hb2.mono (by simp; omega))
  cases bb with
  | false =>
   have HN := Lib.hid (find_none (hfd.2.2 rfl))
   clear hfd
   have hblk := (Blk.new2 _ _ _ _).on hb2
   obtain ⟨z0, z1, z2, z3, z4, z5, z6, z7⟩ := hblk.eight
   have zf := hblk.frozen
   have hb2l := hblk.lt
   have HBLK := Lib.hid hblk
   clear hblk
   go_wp2_with fail
   refine bodyPost_ret (results_row (l := [_, _, _, _, _, _, _, _]) rfl _ _ _ rfl (HBLK.out.set8 _ _ _ _ _ _ _ _) Tryz.underlying31 rfl (by kernel_rfl)) rfl ?_
   exact FindPost.no (HF.out.trans HN.out) (below_set8 hb (by omega) _ _ _ _ _ _ _ _)
  | true =>
   obtain ⟨p, hp, rfl⟩ := hfd.2.1 rfl
   have HN := Lib.hid (find_at HR.out hp)
   obtain ⟨g, o, y, rfl, hy, hk, hc⟩ := H6.out i _ hp
   have hi : i < m.length := (List.getElem?_eq_some_iff.1 hp).1
   obtain ⟨k1, b1, n1, g1, x1, s1, A1, l1, p1, B1, m1, d1, rfl⟩ := In.cells hy
   have hle : Cl.le w.cell? w2.cell? := le_below hb
   obtain ⟨e0, e1, e2, e3, e4, e5, e6, e7⟩ := (hc.keep hle).eight
   have hgl : g < w2.heap.size := World.block_lt_of_cell? w2 _ e0
   have hgw : g < w.heap.size := World.block_lt_of_cell? w _ hk
   have HY := Lib.hid hy
   have hblk := (Blk.new2 _ _ _ _).on hb2
   obtain ⟨z0, z1, z2, z3, z4, z5, z6, z7⟩ := hblk.eight
   have zf := hblk.frozen
   have hb2l := hblk.lt
   have HBLK := Lib.hid hblk
   have f7 := (((Blk.new w _ _).alloc _).on hb2).cell 7
   clear hblk hfd hp hy hk hc hle
   go_wp2_with fail
   refine bodyPost_ret (results_row (l := [_, _, _, _, _, _, _, _]) rfl _ _ _ rfl (HBLK.out.set8 _ _ _ _ _ _ _ _) Tryz.underlying31 rfl (by kernel_rfl)) rfl ?_
   have hbb := below_set8 hb (g := w.heap.size + 1) (by omega) (.int .i64 k1) (.bool b1) (.bool n1) (.string ⟨g1.toArray⟩) (.int .i64 x1) (.string ⟨s1.toArray⟩) (.slice A1 l1 p1) (.slice B1 m1 d1)
   exact FindPost.yes (HF.out.trans HN.out) (In.keep (le_below hbb) _ _ HY.out) hbb
 ·have t1 : (k == 5) = false := by simpa using hk
  have t2 : (k != 5) = true := by simpa using hk
  have HF := Lib.hid (show (Vl.mk k b n s l m).find key = none from by simp [Vl.find, hk])
  have hblk := Blk.new2 w (.cells #[.int .i64 k, .bool b, .bool n.neg, .string ⟨n.digits.toArray⟩, .int .i64 n.exp, .string ⟨s.toArray⟩, .slice A l.length e, .slice B m.length d] 31) 31 #[.int .i64 0, .bool false, .bool false, .string ⟨#[]⟩, .int .i64 0, .string ⟨#[]⟩, .slice none 0 0, .slice none 0 0]
  have HBLK := Lib.hid hblk
  clear hk hr hblk
  unfold maxLen at q2 q4
  go_enter Tryz.func61, Tryz.ntmps61
  go_wp2_with fail
  refine bodyPost_ret (results_row (l := [_, _, _, _, _, _, _, _]) rfl _ _ _ rfl HBLK.out Tryz.underlying31 rfl (by kernel_rfl)) rfl ?_
  exact FindPost.no HF.out HB2
end Go.Proofs.YtolkfgikomminaaGreatDoor

namespace Go.Proofs.YtolkfgikomminaaGreatDoor
open Go.RowKit Js

theorem find_first {m : List Js.Mem} {i : Nat} {p : Js.Mem} (hp : m[i]? = some p) (h : ∀ q ∈ m.take i, q.1 ≠ p.1) : Js.find m p.1 = some p.2 := by
 unfold Js.find
 induction m generalizing i with
 | nil => simp at hp
 | cons q m ih =>
  cases i with
  | zero => simp at hp; subst hp; simp
  | succ i =>
   have hne : ¬ q.1 = p.1 := h q (by simp)
   rw [List.find?_cons_of_neg (by simpa using hne)]
   exact ih (i := i) (by simpa using hp) (fun r hr => h r (by simp [hr]))

def Looking (w : World) (k : Int) (b : Bool) (n : Nm.Num) (s : List UInt8) (lv mv : Value) (m : List Js.Mem) (key : List UInt8) (i : Value) (wr : World) : Prop :=
 ∃ j : Nat, j ≤ m.length ∧ i = .int .i64 j ∧ (k = 5 → ∀ q ∈ m.take j, q.1 ≠ key) ∧ wr = (w.alloc (.cells #[.int .i64 k, .bool b, .bool n.neg, .string ⟨n.digits.toArray⟩, .int .i64 n.exp, .string ⟨s.toArray⟩, lv, mv] 31)).alloc (.cells #[.int .i64 0, .bool false, .bool false, .string ⟨#[]⟩, .int .i64 0, .string ⟨#[]⟩, .slice none 0 0, .slice none 0 0] 31)

set_option linter.unusedVariables false in
set_option linter.unusedSimpArgs false in
set_option maxRecDepth 100000 in
set_option maxHeartbeats 2000000 in
theorem refFind_any (v : Vl) (key : List UInt8) (x : Value) (w : World) (hx : v.In w.cell? x) :
  Calls Tryz.prog 35 #[x, .string ⟨key.toArray⟩] w (FindPost (v.find key) w) := by
 obtain ⟨k, b, n, s, l, m⟩ := v
 obtain ⟨A, e, B, d, rfl, q1, q2, q3, q4, q5, q6⟩ := In.form hx
 have H6 := Lib.hid (show SlM w.cell? B m from q6)
 have HB2 : Below w.heap.size w _ := (((Below.refl _ _).alloc (Nat.le_refl _) (.cells #[.int .i64 k, .bool b, .bool n.neg, .string ⟨n.digits.toArray⟩, .int .i64 n.exp, .string ⟨s.toArray⟩, .slice A l.length e, .slice B m.length d] 31)).alloc (by simp) (.cells #[.int .i64 0, .bool false, .bool false, .string ⟨#[]⟩, .int .i64 0, .string ⟨#[]⟩, .slice none 0 0, .slice none 0 0] 31))
 clear q5 q6 hx
 unfold maxLen at q2 q4
 go_enter Tryz.func35, Tryz.ntmps35
 go_wp2_with fail
 go_loopw [6] (Looking w k b n s (.slice A l.length e) (.slice B m.length d) m key) (fun i _ => m.length - (intOf i).toNat)
 case atStart => exact ⟨0, by omega, rfl, fun _ q hq => by simp at hq, rfl⟩
 case round =>
  obtain ⟨j, hj, rfl, hno, rfl⟩ := hrel
  have HNO := Lib.hid hno
  clear hno
  by_cases hlt : j < m.length
  ·have hp := List.getElem?_eq_getElem hlt
   obtain ⟨g, o, y, rfl, hy, hk, hc⟩ := H6.out j _ hp
   obtain ⟨k1, b1, n1, g1, x1, s1, A1, l1, p1, B1, m1, d1, rfl⟩ := In.cells hy
   obtain ⟨e0, e1, e2, e3, e4, e5, e6, e7⟩ := hc.eight
   have hgw : g < w.heap.size := World.block_lt_of_cell? w _ hk
   have HY := Lib.hid hy
   have HNX := Lib.hid (show ∀ q ∈ m.take (j + 1), q ∈ m.take j ∨ q = m[j] by
    intro q hq
    rw [List.take_succ_eq_append_getElem hlt] at hq
    rcases List.mem_append.1 hq with h | h
    ·exact .inl h
    ·exact .inr (List.mem_singleton.1 h))
   have HFI := Lib.hid (fun h => find_first hp h)
   clear hp hy hc
   by_cases h5 : k = 5
   ·subst h5
    by_cases hkey : m[j].1 = key
    ·have HF := Lib.hid (show (Vl.mk 5 b n s l m).find key = some m[j].2 from by
      have := HFI.out (fun q hq => by rw [hkey]; exact HNO.out rfl q hq)
      rw [hkey] at this
      simpa [Vl.find] using this)
     have kk : (m[j].1 == key) = true := by simpa using hkey
     clear HFI hkey
     generalize m[j].1 = mk at *
     have hblk := Blk.new2 w (.cells #[.int .i64 5, .bool b, .bool n.neg, .string ⟨n.digits.toArray⟩, .int .i64 n.exp, .string ⟨s.toArray⟩, .slice A l.length e, .slice (some ⟨g, o, none⟩) m.length d] 31) 31 #[.int .i64 k1, .bool b1, .bool n1, .string ⟨g1.toArray⟩, .int .i64 x1, .string ⟨s1.toArray⟩, .slice A1 l1 p1, .slice B1 m1 d1]
     have HBLK := Lib.hid hblk
     clear hblk
     go_wp2_with fail
     refine bodyPost_ret (results_row (l := [_, _, _, _, _, _, _, _]) rfl _ _ _ rfl HBLK.out Tryz.underlying31 rfl (by kernel_rfl)) rfl ?_
     have hbb : Below w.heap.size w _ := (((Below.refl _ _).alloc (Nat.le_refl _) (.cells #[.int .i64 5, .bool b, .bool n.neg, .string ⟨n.digits.toArray⟩, .int .i64 n.exp, .string ⟨s.toArray⟩, .slice A l.length e, .slice (some ⟨g, o, none⟩) m.length d] 31)).alloc (by simp) (.cells #[.int .i64 k1, .bool b1, .bool n1, .string ⟨g1.toArray⟩, .int .i64 x1, .string ⟨s1.toArray⟩, .slice A1 l1 p1, .slice B1 m1 d1] 31))
     exact FindPost.yes HF.out (In.keep (le_below hbb) _ _ HY.out) hbb
    ·have HK := Lib.hid hkey
     have kk : (m[j].1 == key) = false := by simpa using hkey
     have HREL := Lib.hid (show (5 : Int) = 5 → ∀ q ∈ m.take (j + 1), q.1 ≠ key from fun _ q hq => (HNX.out q hq).elim (HNO.out rfl q) (fun e => by rw [e]; exact hkey))
     clear HFI hkey
     generalize m[j].1 = mk at *
     go_wp2_with fail
     go_roundw
     case rel => exact ⟨j + 1, by omega, by go_num, HREL.out, rfl⟩
     case measure => simp [intOf]; omega
   ·have t1 : (k == 5) = false := by simpa using h5
    have HREL := Lib.hid (show k = 5 → ∀ q ∈ m.take (j + 1), q.1 ≠ key from fun h => absurd h h5)
    clear h5 HFI
    go_wp2_with fail
    go_roundw
    case rel => exact ⟨j + 1, by omega, by go_num, HREL.out, rfl⟩
    case measure => simp [intOf]; omega
  ·obtain rfl : j = m.length := by omega
   have HF := Lib.hid (show (Vl.mk k b n s l m).find key = none from by
    unfold Vl.find
    simp only
    split
    ·rename_i h5
     exact find_none (fun p hp => HNO.out h5 p (by rw [List.take_length]; exact hp))
    ·rfl)
   have hblk := Blk.new2 w (.cells #[.int .i64 k, .bool b, .bool n.neg, .string ⟨n.digits.toArray⟩, .int .i64 n.exp, .string ⟨s.toArray⟩, .slice A l.length e, .slice B m.length d] 31) 31 #[.int .i64 0, .bool false, .bool false, .string ⟨#[]⟩, .int .i64 0, .string ⟨#[]⟩, .slice none 0 0, .slice none 0 0]
   have HBLK := Lib.hid hblk
   clear hblk
   go_wp2_with fail
   refine bodyPost_ret (results_row (l := [_, _, _, _, _, _, _, _]) rfl _ _ _ rfl HBLK.out Tryz.underlying31 rfl (by kernel_rfl)) rfl ?_
   exact FindPost.no HF.out HB2

end Go.Proofs.YtolkfgikomminaaGreatDoor


