/- Jn: Ln Jn Lk, in one text. -/
import Derived.Test.YtmdpjhcghdjmmaaJa
import Derived.Test.YtmdpjhcghdjmmaaPq
import Derived.Test.YtmdpjhcghdjmmaaMj
import Derived.KernelRfl
import Derived.Test.YtmdpjhcghdjmmaaJd
import Derived.Test.YtmdpjhcghdjmmaaMr
import Derived.Test.YtmdpjhcghdjmmaaRg
import Derived.Test.YtmdpjhcghdjmmaaPg
/- Layer 7 (edit): what an edit tells, in the form that the laws want; what the program's functions are to do. -/
namespace Go.Proofs.Ytmdpjhcghdjmmaa.Ed
open Js Pt

/-- The value that is told, and the error's number. -/
def resZ : Ch → Vl
  | .ok z => z
  | .bad _ => Ps.mkN
def resC : Ch → Nat
  | .ok _ => 0
  | .bad c => c
theorem edit_bad {op : Nat} (ns : List (List UInt8)) {x : Vl} : ∀ {v : Vl} {c : Nat}, edit op ns v x = .bad c → c = 6 ∨ c = 7 := by
  induction ns with
  | nil =>
    intro v c h
    unfold edit at h
    split at h
    · injection h with h; exact .inr h.symm
    · cases h
  | cons nm ns ih =>
    intro v c h
    cases ns with
    | nil =>
      obtain ⟨k, b, n, s, l, m⟩ := v
      have h : one op nm (.mk k b n s l m) x = .bad c := h
      rw [one_mk] at h
      split at h
      · split at h
        · cases h
        · injection h with h; exact .inl h.symm
      · split at h
        · split at h
          · cases h
          · injection h with h; exact .inl h.symm
        · injection h with h; exact .inl h.symm
    | cons a r =>
      rw [edit_more op nm (by simp), under_kid] at h
      cases hk : kid v nm with
      | none => rw [hk] at h; injection h with h; exact .inl h.symm
      | some y =>
        rw [hk] at h
        simp only at h
        cases he : edit op (a :: r) y x with
        | bad c' => rw [he] at h; injection h with h; subst h; exact ih he
        | ok z => rw [he] at h; cases h
theorem resC_le (op : Nat) (ns : List (List UInt8)) (v x : Vl) : resC (edit op ns v x) ≤ 14 := by
  cases h : edit op ns v x with
  | ok z => show 0 ≤ 14; omega
  | bad c => have := edit_bad ns h; show c ≤ 14; omega
theorem edit_six {op : Nat} (ns : List (List UInt8)) {x : Vl} : ∀ {v : Vl} {c : Nat}, ns ≠ [] → edit op ns v x = .bad c → c = 6 := by
  induction ns with
  | nil => intro v c h; exact absurd rfl h
  | cons nm ns ih =>
    intro v c _ h
    cases ns with
    | nil =>
      obtain ⟨k, b, n, s, l, m⟩ := v
      have h : one op nm (.mk k b n s l m) x = .bad c := h
      rw [one_mk] at h
      split at h
      · split at h
        · cases h
        · injection h with h; exact h.symm
      · split at h
        · split at h
          · cases h
          · injection h with h; exact h.symm
        · injection h with h; exact h.symm
    | cons a r =>
      rw [edit_more op nm (by simp), under_kid] at h
      cases hk : kid v nm with
      | none => rw [hk] at h; injection h with h; exact h.symm
      | some y =>
        rw [hk] at h
        simp only at h
        cases he : edit op (a :: r) y x with
        | bad c' => rw [he] at h; injection h with h; subst h; exact ih (by simp) he
        | ok z => rw [he] at h; cases h
/-- What is removed does not hang on what would have been put. -/
theorem edit_two (ns : List (List UInt8)) (x x' : Vl) : ∀ v, edit 2 ns v x = edit 2 ns v x' := by
  induction ns with
  | nil => intro v; rfl
  | cons nm ns ih =>
    intro v
    cases ns with
    | nil =>
      obtain ⟨k, b, n, s, l, m⟩ := v
      show one 2 nm _ x = one 2 nm _ x'
      have e : ∀ i (z : Vl), inL 2 l i z = l.eraseIdx i := fun i z => by unfold inL; rw [if_neg (by decide), if_pos rfl]
      rw [one_mk, one_mk]
      simp only [e, if_true]
    | cons a r =>
      rw [edit_more 2 nm (by simp), edit_more 2 nm (by simp), under_kid, under_kid]
      cases kid v nm with
      | none => rfl
      | some y => simp only [ih y]
theorem ex_one : Ps.parse [91, 49, 93] = .ok (Ps.mkA [Ps.mkD ⟨false, [49], 0⟩]) [] := by kernel_rfl
theorem ex_two : Ps.parse [91, 49, 44, 110, 117, 108, 108, 93] = .ok (Ps.mkA [Ps.mkD ⟨false, [49], 0⟩, Ps.mkN]) [] := by kernel_rfl
theorem ex_add : edit 1 [[45]] (Ps.mkA [Ps.mkD ⟨false, [49], 0⟩]) Ps.mkN = .ok (Ps.mkA [Ps.mkD ⟨false, [49], 0⟩, Ps.mkN]) := by kernel_rfl
theorem ex_neat : neat (Ps.mkA [Ps.mkD ⟨false, [49], 0⟩]) = true := by kernel_rfl
theorem ex_null : neat Ps.mkN = true := by kernel_rfl


/-- Whether something was told. -/
def okOf : Ch → Bool
  | .ok _ => true
  | .bad _ => false

end Go.Proofs.Ytmdpjhcghdjmmaa.Ed
namespace Go.Proofs.Ytmdpjhcghdjmmaa
open Go.RowKit Pt Js

def EditE (r : Ed.Ch) (w : World) (e : Ending) (w' : World) : Prop := ∃ y, e = .returned (.tuple #[y, errV (Ed.resC r)]) ∧ (Ed.resZ r).In w'.cell? y ∧ Below w.heap.size w w'
/-- What is handed to an edit. -/
structure Handed (v x : Vl) (ns : List (List UInt8)) (xv xx : Value) (A : Option Addr) (e : Nat) (w : World) : Prop where
  hv : v.In w.cell? xv
  hx : x.In w.cell? xx
  hs : Strs w.cell? A ns
  he : ns.length ≤ e
  hm : e ≤ maxLen
  hA : A = none → ns.length = 0 ∧ e = 0
  hl : ns.length ≤ 1000000
  hns : ∀ n ∈ ns, n.length ≤ 1000000
  hne : Ed.neat v = true
  hnx : Ed.neat x = true
  hsz : v.size ≤ 1000000
  hsx : x.size ≤ 1000000
theorem Handed.keep {v x : Vl} {ns : List (List UInt8)} {xv xx : Value} {A : Option Addr} {e : Nat} {w w' : World} (h : Handed v x ns xv xx A e w) (hb : Below w.heap.size w w') : Handed v x ns xv xx A e w' :=
  ⟨In.keep (le_below hb) _ _ h.hv, In.keep (le_below hb) _ _ h.hx, h.hs.keep (le_below hb), h.he, h.hm, h.hA, h.hl, h.hns, h.hne, h.hnx, h.hsz, h.hsx⟩
/-- What the program's functions are to do. -/
structure EditsT : Prop where
  add : ∀ (v x : Vl) (ns : List (List UInt8)) (xv xx : Value) (A : Option Addr) (e : Nat) (w : World), Handed v x ns xv xx A e w → Calls Try.prog 8 #[xv, .slice A ns.length e, xx] w (EditE (Ed.edit 1 ns v x) w)
  remove : ∀ (v x : Vl) (ns : List (List UInt8)) (xv xx : Value) (A : Option Addr) (e : Nat) (w : World), Handed v x ns xv xx A e w → Calls Try.prog 9 #[xv, .slice A ns.length e] w (EditE (Ed.edit 2 ns v x) w)
  replace : ∀ (v x : Vl) (ns : List (List UInt8)) (xv xx : Value) (A : Option Addr) (e : Nat) (w : World), Handed v x ns xv xx A e w → Calls Try.prog 10 #[xv, .slice A ns.length e, xx] w (EditE (Ed.edit 3 ns v x) w)

/-- What one change tells. -/
def EditL (S : Nat → Prop) (r : Ed.Ch) (w : World) (e : Ending) (w' : World) : Prop := ∃ y, e = .returned (.tuple #[y, .bool (Ed.okOf r)]) ∧ (Ed.resZ r).In (w'.on fun b => S b ∨ w.heap.size ≤ b) y ∧ Below w.heap.size w w'

end Go.Proofs.Ytmdpjhcghdjmmaa

/- The laws of layer 7 (edit): up. -/
namespace Go.Proofs.Ytmdpjhcghdjmmaa
open Go.RowKit Pt Js

theorem strs_one {w : World} {g : Nat} {s : Array UInt8} (h : Blk w g 9 #[.string ⟨s⟩]) : Strs w.cell? (some ⟨g, 0, none⟩) [s.toList] := by
  intro i n hi
  have hl := (List.getElem?_eq_some_iff.1 hi).1
  have h0 : i = 0 := by simpa using hl
  subst h0
  have hn : n = s.toList := by simpa using hi.symm
  subst hn
  exact ⟨g, 0, rfl, h.cell 0⟩
theorem EditE.ok {r : Ed.Ch} {z : Vl} {w w' : World} {e : Ending} (h : EditE r w e w') (hr : r = .ok z) : ∃ y, e = .returned (.tuple #[y, .nilIface]) ∧ z.In w'.cell? y ∧ Below w.heap.size w w' := by
  subst hr; exact h
theorem EditE.bad {r : Ed.Ch} {c : Nat} {w w' : World} {e : Ending} (h : EditE r w e w') (hr : r = .bad c) (hc : c = 6 ∨ c = 7) : ∃ y, e = .returned (.tuple #[y, .iface 54 (.int .i64 c)]) ∧ Ps.mkN.In w'.cell? y ∧ Below w.heap.size w w' := by
  subst hr
  rcases hc with rfl | rfl
  · exact h
  · exact h

set_option linter.unusedVariables false in
set_option linter.unusedSimpArgs false in
set_option maxRecDepth 100000 in
set_option maxHeartbeats 1000000 in
theorem up7_any (hP : EditsT) (w : World) : Calls Try.prog 5 #[] w fun e w' => e = .returned (.bool true) ∧ Below w.heap.size w w' := by
  have HP1 := Lib.hid (refParse_any ⟨#[91, 49, 93]⟩ (by decide) w)
  have HPP := Lib.hid hP
  clear hP
  go_enter Try.func5, Try.ntmps5
  go_wp2_with fail
  refine HP1.out.mono ?_
  rintro e w1 ⟨v, x, c, p, rfl, hx, hb1, hr⟩
  rw [show (⟨#[91, 49, 93]⟩ : ByteArray).data.toList = [91, 49, 93] from rfl, Ed.ex_one] at hr
  obtain ⟨rfl, rfl, rfl⟩ := hr
  obtain ⟨k_1, k_2, k_3, k_4, k_5, k_6, k_7, k_8, k_9, k_a, k_b, k_c, rfl⟩ := In.cells hx
  have hx := In.keep (le_on w1 (w.heap.size ≤ ·)) _ _ hx
  have HBA := Lib.hid (hb1.alloc hb1.size (.cells #[.int .i64 k_1, .bool k_2, .bool k_3, .string ⟨k_4.toArray⟩, .int .i64 k_5, .string ⟨k_6.toArray⟩, .slice k_7 k_8 k_9, .slice k_a k_b k_c] 28))
  have HXA := Lib.hid (In.keep (le_alloc w1 (.cells #[.int .i64 k_1, .bool k_2, .bool k_3, .string ⟨k_4.toArray⟩, .int .i64 k_5, .string ⟨k_6.toArray⟩, .slice k_7 k_8 k_9, .slice k_a k_b k_c] 28)) _ _ hx)
  have HKA := Lib.hid (Blk.new w1 28 #[.int .i64 k_1, .bool k_2, .bool k_3, .string ⟨k_4.toArray⟩, .int .i64 k_5, .string ⟨k_6.toArray⟩, .slice k_7 k_8 k_9, .slice k_a k_b k_c])
  clear hx hb1
  go_upto_region 2 with (fail)
  generalize w1.alloc (.cells #[.int .i64 k_1, .bool k_2, .bool k_3, .string ⟨k_4.toArray⟩, .int .i64 k_5, .string ⟨k_6.toArray⟩, .slice k_7 k_8 k_9, .slice k_a k_b k_c] 28) = wa at *
  generalize w1.heap.size = g1 at *
  have HP2 := Lib.hid (refParse_any ⟨#[91, 49, 44, 110, 117, 108, 108, 93]⟩ (by decide) wa)
  go_wp2_with fail
  refine HP2.out.mono ?_
  rintro e w2 ⟨v2, x2, c2, p2, rfl, hx2, hb2, hr2⟩
  rw [show (⟨#[91, 49, 44, 110, 117, 108, 108, 93]⟩ : ByteArray).data.toList = [91, 49, 44, 110, 117, 108, 108, 93] from rfl, Ed.ex_two] at hr2
  obtain ⟨rfl, rfl, rfl⟩ := hr2
  obtain ⟨m_1, m_2, m_3, m_4, m_5, m_6, m_7, m_8, m_9, m_a, m_b, m_c, rfl⟩ := In.cells hx2
  have hx2 := In.keep (le_on w2 (wa.heap.size ≤ ·)) _ _ hx2
  have hb2a := hb2.alloc hb2.size (.cells #[.int .i64 m_1, .bool m_2, .bool m_3, .string ⟨m_4.toArray⟩, .int .i64 m_5, .string ⟨m_6.toArray⟩, .slice m_7 m_8 m_9, .slice m_a m_b m_c] 28)
  have HBB := Lib.hid (HBA.out.trans (hb2a.mono HBA.out.size))
  have HXB := Lib.hid (In.keep (le_below hb2a) _ _ HXA.out)
  have HKB := Lib.hid (HKA.out.on hb2a)
  have HYB := Lib.hid (In.keep (le_alloc w2 (.cells #[.int .i64 m_1, .bool m_2, .bool m_3, .string ⟨m_4.toArray⟩, .int .i64 m_5, .string ⟨m_6.toArray⟩, .slice m_7 m_8 m_9, .slice m_a m_b m_c] 28)) _ _ hx2)
  have HMB := Lib.hid (Blk.new w2 28 #[.int .i64 m_1, .bool m_2, .bool m_3, .string ⟨m_4.toArray⟩, .int .i64 m_5, .string ⟨m_6.toArray⟩, .slice m_7 m_8 m_9, .slice m_a m_b m_c])
  clear hx2 hb2 hb2a HP2 HP1 HXA HKA HBA
  go_upto_region 3 with (fail)
  generalize w2.alloc (.cells #[.int .i64 m_1, .bool m_2, .bool m_3, .string ⟨m_4.toArray⟩, .int .i64 m_5, .string ⟨m_6.toArray⟩, .slice m_7 m_8 m_9, .slice m_a m_b m_c] 28) = wb at *
  generalize w2.heap.size = g2 at *
  obtain ⟨a0, a1, a2, a3, a4, a5, a6, a7⟩ := HKB.out.eight
  have hbs := (Below.refl wb.heap.size wb).alloc (Nat.le_refl _) (.cells #[.string ⟨#[45]⟩] 9)
  have HADD := Lib.hid (HPP.out.add _ Ps.mkN [[45]] _ (.agg zeroC) (some ⟨wb.heap.size, 0, none⟩) 1 (wb.alloc (.cells #[.string ⟨#[45]⟩] 9)) ⟨In.keep (le_below hbs) _ _ HXB.out, leaf_in _ 0 false Nm.Num.zero [], strs_one (Blk.new wb 9 #[.string ⟨#[45]⟩]), Nat.le_refl _, by unfold maxLen; omega, (fun h => by cases h), (by decide), (fun n hn => by rw [List.mem_singleton.1 hn]; decide), Ed.ex_neat, Ed.ex_null, by decide, by decide⟩)
  have HBS := Lib.hid (HBB.out.trans (hbs.mono HBB.out.size))
  have HXS := Lib.hid (In.keep (le_below hbs) _ _ HXB.out)
  have HYS := Lib.hid (In.keep (le_below hbs) _ _ HYB.out)
  have HKS := Lib.hid (HKB.out.on hbs)
  have HMS := Lib.hid (HMB.out.on hbs)
  clear hbs HBB HXB HYB HKB HMB
  go_wp2_with fail
  refine HADD.out.mono ?_
  intro e3 w3 h3
  obtain ⟨y3, rfl, hy3, hb3⟩ := h3.ok Ed.ex_add
  obtain ⟨n_1, n_2, n_3, n_4, n_5, n_6, n_7, n_8, n_9, n_a, n_b, n_c, rfl⟩ := In.cells hy3
  have hb3a := hb3.alloc hb3.size (.cells #[.int .i64 n_1, .bool n_2, .bool n_3, .string ⟨n_4.toArray⟩, .int .i64 n_5, .string ⟨n_6.toArray⟩, .slice n_7 n_8 n_9, .slice n_a n_b n_c] 28)
  have HB3 := Lib.hid (HBS.out.trans (hb3a.mono HBS.out.size))
  have HX3 := Lib.hid (In.keep (le_below hb3a) _ _ HXS.out)
  have HY3 := Lib.hid (In.keep (le_below hb3a) _ _ HYS.out)
  have HK3 := Lib.hid (HKS.out.on hb3a)
  have HM3 := Lib.hid (HMS.out.on hb3a)
  have HZ3 := Lib.hid (In.keep (le_alloc w3 (.cells #[.int .i64 n_1, .bool n_2, .bool n_3, .string ⟨n_4.toArray⟩, .int .i64 n_5, .string ⟨n_6.toArray⟩, .slice n_7 n_8 n_9, .slice n_a n_b n_c] 28)) _ _ hy3)
  have HN3 := Lib.hid (Blk.new w3 28 #[.int .i64 n_1, .bool n_2, .bool n_3, .string ⟨n_4.toArray⟩, .int .i64 n_5, .string ⟨n_6.toArray⟩, .slice n_7 n_8 n_9, .slice n_a n_b n_c])
  clear h3 hy3 hb3 hb3a HADD HBS HXS HYS HKS HMS a0 a1 a2 a3 a4 a5 a6 a7
  go_upto_region 4 with (fail)
  generalize w3.alloc (.cells #[.int .i64 n_1, .bool n_2, .bool n_3, .string ⟨n_4.toArray⟩, .int .i64 n_5, .string ⟨n_6.toArray⟩, .slice n_7 n_8 n_9, .slice n_a n_b n_c] 28) = wd at *
  generalize w3.heap.size = g3 at *
  obtain ⟨a0, a1, a2, a3, a4, a5, a6, a7⟩ := HK3.out.eight
  have HREM := Lib.hid (HPP.out.remove _ Ps.mkN [] _ (.agg zeroC) none 0 wd ⟨HX3.out, leaf_in _ 0 false Nm.Num.zero [], (fun i n h => by simp at h), Nat.le_refl _, (by unfold maxLen; omega), (fun _ => ⟨rfl, rfl⟩), (by decide), (fun n hn => by simp at hn), Ed.ex_neat, Ed.ex_null, by decide, by decide⟩)
  go_wp2_with fail
  refine HREM.out.mono ?_
  intro e4 w4 h4
  obtain ⟨y4, rfl, hy4, hb4⟩ := h4.bad rfl (.inr rfl)
  obtain ⟨j_1, j_2, j_3, j_4, j_5, j_6, j_7, j_8, j_9, j_a, j_b, j_c, rfl⟩ := In.cells hy4
  have hb4a := hb4.alloc hb4.size (.cells #[.int .i64 j_1, .bool j_2, .bool j_3, .string ⟨j_4.toArray⟩, .int .i64 j_5, .string ⟨j_6.toArray⟩, .slice j_7 j_8 j_9, .slice j_a j_b j_c] 28)
  have HB4 := Lib.hid (HB3.out.trans (hb4a.mono HB3.out.size))
  have HY4 := Lib.hid (In.keep (le_below hb4a) _ _ HY3.out)
  have HM4 := Lib.hid (HM3.out.on hb4a)
  have HZ4 := Lib.hid (In.keep (le_below hb4a) _ _ HZ3.out)
  have HN4 := Lib.hid (HN3.out.on hb4a)
  clear h4 hy4 hb4 hb4a HREM HB3 HX3 HY3 HK3 HM3 HZ3 HN3 a0 a1 a2 a3 a4 a5 a6 a7
  go_upto_region 5 with (fail)
  generalize w4.alloc (.cells #[.int .i64 j_1, .bool j_2, .bool j_3, .string ⟨j_4.toArray⟩, .int .i64 j_5, .string ⟨j_6.toArray⟩, .slice j_7 j_8 j_9, .slice j_a j_b j_c] 28) = we at *
  generalize w4.heap.size = g4 at *
  obtain ⟨a0, a1, a2, a3, a4, a5, a6, a7⟩ := HN4.out.eight
  obtain ⟨b0, b1, b2, b3, b4, b5, b6, b7⟩ := HM4.out.eight
  have hsm := refSame_any _ _ _ _ we HZ4.out HY4.out
  rw [same_refl] at hsm
  have HSM := Lib.hid hsm
  clear hsm
  go_wp2_with fail
  refine HSM.out.mono ?_
  rintro e5 w5 ⟨rfl, hb5⟩
  have HB5 := Lib.hid (HB4.out.trans (hb5.mono HB4.out.size))
  clear hb5
  go_wp2_with fail
  refine (code_some 7 w5 (by omega) (by omega)).mono ?_
  rintro e6 w6 ⟨rfl, rfl⟩
  go_wp2_with fail
  go_ret
  exact ⟨rfl, HB5.out⟩

end Go.Proofs.Ytmdpjhcghdjmmaa

/- Layer 7 (edit): what the document's Edit is to do, in the form that the laws want. -/
namespace Go.Proofs.Ytmdpjhcghdjmmaa
open Go.RowKit Pt Js

/-- What the document's Edit tells; what the program's functions tell. -/
def EditS (r : Ed.Ch) (w : World) (e : Ending) (w' : World) : Prop := ∃ y, e = .returned (.tuple #[y, .int .i64 (Ed.resC r)]) ∧ (Ed.resZ r).In w'.cell? y ∧ Below w.heap.size w w'
/-- What the document's Edit is to do. -/
structure RefT : Prop where
  edit : ∀ (op : Nat) (_ : op = 1 ∨ op = 2 ∨ op = 3) {v x : Vl} {ns : List (List UInt8)} {xv xx : Value} {A : Option Addr} {e : Nat} {w : World}, Handed v x ns xv xx A e w →
    Calls Try.prog 11 #[.int .i64 op, xv, .slice A ns.length e, xx] w (EditS (Ed.edit op ns v x) w)

end Go.Proofs.Ytmdpjhcghdjmmaa


