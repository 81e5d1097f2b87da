/- Bn: Bl Bh Bn Bo Bp, in one text. -/
import Derived.Test.YtjjenpmahmbafaaGreatDoorLd
import Derived.Test.YtjjenpmahmbafaaGreatDoorBa
import Derived.Test.YtjjenpmahmbafaaGreatDoorMe
import Derived.Test.YtjjenpmahmbafaaGreatDoorBm
import Derived.Test.YtjjenpmahmbafaaGreatDoorMk
import Derived.Test.YtjjenpmahmbafaaGreatDoorBe
namespace Go.Proofs.YtjjenpmahmbafaaGreatDoor
open Go.RowKit Pt Js

structure HandedS (S : Nat → Prop) (v x : Vl) (ns : List (List UInt8)) (xv xx : Value) (A : Option Addr) (e : Nat) (w : World) : Prop where
  hS : ∀ b, S b → b < w.heap.size
  hv : v.In (w.on S) xv
  hx : x.In (w.on S) xx
  hs : Strs w.cell? A ns
  he : ns.length ≤ e
  hm : e ≤ maxLen
  hl : ns.length ≤ 1000000
  hns : ∀ n ∈ ns, n.length ≤ 1000000
  hne : Ed.neat v = true
  hsz : v.size ≤ 1000000
def EditF (S : Nat → Prop) (r : Ed.Ch) (w : World) (e : Ending) (w' : World) : Prop := ∃ y, e = .returned (.tuple #[y, errV (Ed.resC r)]) ∧ (Ed.resZ r).In (w'.on fun b => S b ∨ w.heap.size ≤ b) y ∧ Below w.heap.size w w'

set_option linter.unusedVariables false in
set_option linter.unusedSimpArgs false in
set_option maxRecDepth 100000 in
set_option maxHeartbeats 2000000 in
theorem AddS_any (S : Nat → Prop) (v x : Vl) (ns : List (List UInt8)) (xv xx : Value) (A : Option Addr) (e : Nat) (w : World) (h : HandedS S v x ns xv xx A e w) :
    Calls Tryz.prog 34 #[xv, .slice A ns.length e, xx] w (EditF S (Ed.edit 1 ns v x) w) := by
  obtain ⟨hS, hv, hx, hs, he, hm, hl, hns, hne, hsz⟩ := h
  have HS := Lib.hid hS
  obtain ⟨k_1, k_2, k_3, k_4, k_5, k_6, k_7, k_8, k_9, k_a, k_b, k_c, rfl⟩ := In.cells hv
  obtain ⟨x_1, x_2, x_3, x_4, x_5, x_6, x_7, x_8, x_9, x_a, x_b, x_c, rfl⟩ := In.cells hx
  by_cases h0 : ns = []
  · subst h0
    have hm' : e ≤ 9223372036854775807 := by unfold maxLen at hm; omega
    have HX := Lib.hid hx
    have HB := Lib.hid (below_three7 w (.cells #[.int .i64 k_1, .bool k_2, .bool k_3, .string ⟨k_4.toArray⟩, .int .i64 k_5, .string ⟨k_6.toArray⟩, .slice k_7 k_8 k_9, .slice k_a k_b k_c] 28) (.cells #[.int .i64 x_1, .bool x_2, .bool x_3, .string ⟨x_4.toArray⟩, .int .i64 x_5, .string ⟨x_6.toArray⟩, .slice x_7 x_8 x_9, .slice x_a x_b x_c] 28) (.cells #[.int .i64 x_1, .bool x_2, .bool x_3, .string ⟨x_4.toArray⟩, .int .i64 x_5, .string ⟨x_6.toArray⟩, .slice x_7 x_8 x_9, .slice x_a x_b x_c] 28))
    have HZ := Lib.hid (Blk.new7 w (.cells #[.int .i64 k_1, .bool k_2, .bool k_3, .string ⟨k_4.toArray⟩, .int .i64 k_5, .string ⟨k_6.toArray⟩, .slice k_7 k_8 k_9, .slice k_a k_b k_c] 28) (.cells #[.int .i64 x_1, .bool x_2, .bool x_3, .string ⟨x_4.toArray⟩, .int .i64 x_5, .string ⟨x_6.toArray⟩, .slice x_7 x_8 x_9, .slice x_a x_b x_c] 28) 28 #[.int .i64 x_1, .bool x_2, .bool x_3, .string ⟨x_4.toArray⟩, .int .i64 x_5, .string ⟨x_6.toArray⟩, .slice x_7 x_8 x_9, .slice x_a x_b x_c])
    clear hv hx hs hns hne hsz hm
    go_enter Tryz.func34, Tryz.ntmps34
    go_wp2_with fail
    refine bodyPost_ret (results_row (l := [_, _, _, _, _, _, _, _]) rfl _ _ _ rfl HZ.out Tryz.underlying28 rfl (by kernel_rfl)) rfl ?_
    have hb := HB.out
    exact ⟨_, rfl, In.keep (on_keep7 (S' := fun b => S b ∨ w.heap.size ≤ b) (fun _ h => .inl h) hb) _ _ HX.out, hb⟩
  · have HB := Lib.hid (below_three7 w (.cells #[.int .i64 k_1, .bool k_2, .bool k_3, .string ⟨k_4.toArray⟩, .int .i64 k_5, .string ⟨k_6.toArray⟩, .slice k_7 k_8 k_9, .slice k_a k_b k_c] 28) (.cells #[.int .i64 x_1, .bool x_2, .bool x_3, .string ⟨x_4.toArray⟩, .int .i64 x_5, .string ⟨x_6.toArray⟩, .slice x_7 x_8 x_9, .slice x_a x_b x_c] 28) (.cells zero7 28))
    have HZ := Lib.hid (Blk.new7 w (.cells #[.int .i64 k_1, .bool k_2, .bool k_3, .string ⟨k_4.toArray⟩, .int .i64 k_5, .string ⟨k_6.toArray⟩, .slice k_7 k_8 k_9, .slice k_a k_b k_c] 28) (.cells #[.int .i64 x_1, .bool x_2, .bool x_3, .string ⟨x_4.toArray⟩, .int .i64 x_5, .string ⟨x_6.toArray⟩, .slice x_7 x_8 x_9, .slice x_a x_b x_c] 28) 28 zero7)
    have HLT := Lib.hid (added1_any S x (w.heap.size + 1) (((w.alloc (.cells #[.int .i64 k_1, .bool k_2, .bool k_3, .string ⟨k_4.toArray⟩, .int .i64 k_5, .string ⟨k_6.toArray⟩, .slice k_7 k_8 k_9, .slice k_a k_b k_c] 28)).alloc (.cells #[.int .i64 x_1, .bool x_2, .bool x_3, .string ⟨x_4.toArray⟩, .int .i64 x_5, .string ⟨x_6.toArray⟩, .slice x_7 x_8 x_9, .slice x_a x_b x_c] 28)).alloc (.cells zero7 28)) (fun b h => Nat.lt_of_lt_of_le (HS.out b h) HB.out.size) ((Blk.new2 w (.cells #[.int .i64 k_1, .bool k_2, .bool k_3, .string ⟨k_4.toArray⟩, .int .i64 k_5, .string ⟨k_6.toArray⟩, .slice k_7 k_8 k_9, .slice k_a k_b k_c] 28) 28 #[.int .i64 x_1, .bool x_2, .bool x_3, .string ⟨x_4.toArray⟩, .int .i64 x_5, .string ⟨x_6.toArray⟩, .slice x_7 x_8 x_9, .slice x_a x_b x_c]).alloc (.cells zero7 28)) (In.keep (on_keep7 (S := S) (fun _ h => h) HB.out) _ _ hx))
    have HCH := Lib.hid (changed7_any 1 59 #[.pointer (some ⟨w.heap.size + 1, 0, none⟩)] x (enters_of Tryz.func59 (by kernel_rfl) rfl) ns h0 S v _ A e (((w.alloc (.cells #[.int .i64 k_1, .bool k_2, .bool k_3, .string ⟨k_4.toArray⟩, .int .i64 k_5, .string ⟨k_6.toArray⟩, .slice k_7 k_8 k_9, .slice k_a k_b k_c] 28)).alloc (.cells #[.int .i64 x_1, .bool x_2, .bool x_3, .string ⟨x_4.toArray⟩, .int .i64 x_5, .string ⟨x_6.toArray⟩, .slice x_7 x_8 x_9, .slice x_a x_b x_c] 28)).alloc (.cells zero7 28)) (fun b h => Nat.lt_of_lt_of_le (HS.out b h) HB.out.size) HLT.out (In.keep (on_keep7 (S := S) (fun _ h => h) HB.out) _ _ hv) hne hsz (hs.keep (le_below HB.out)) he hm hl hns)
    have HSIX := Lib.hid (fun k (h : Ed.edit 1 ns v x = .bad k) => Ed.edit_six ns h0 h)
    have hm' : e ≤ 9223372036854775807 := by unfold maxLen at hm; omega
    have hn0 : 0 < ns.length := List.length_pos_iff.2 h0
    have hn1 : ((ns.length : Int) == 0) = false := by rw [beq_eq_false_iff_ne]; omega
    generalize Ed.edit 1 ns v x = R at *
    clear hv hx hs hns hne hsz hm h0 HLT
    go_enter Tryz.func34, Tryz.ntmps34
    go_wp2_with fail
    refine HCH.out.mono ?_
    rintro e9 w9 ⟨y9, rfl, hy, hb9⟩
    have HT := Lib.hid (told7_any (w9.on fun b => S b ∨ (((w.alloc (.cells #[.int .i64 k_1, .bool k_2, .bool k_3, .string ⟨k_4.toArray⟩, .int .i64 k_5, .string ⟨k_6.toArray⟩, .slice k_7 k_8 k_9, .slice k_a k_b k_c] 28)).alloc (.cells #[.int .i64 x_1, .bool x_2, .bool x_3, .string ⟨x_4.toArray⟩, .int .i64 x_5, .string ⟨x_6.toArray⟩, .slice x_7 x_8 x_9, .slice x_a x_b x_c] 28)).alloc (.cells zero7 28)).heap.size ≤ b) R HSIX.out y9 w9 hy)
    have HB9 := Lib.hid (HB.out.trans (hb9.mono HB.out.size))
    have HZ9 := Lib.hid (HZ.out.on hb9)
    have HZL := Lib.hid HZ.out.lt
    clear hy hb9 HCH HSIX
    generalize hww : (((w.alloc (.cells #[.int .i64 k_1, .bool k_2, .bool k_3, .string ⟨k_4.toArray⟩, .int .i64 k_5, .string ⟨k_6.toArray⟩, .slice k_7 k_8 k_9, .slice k_a k_b k_c] 28)).alloc (.cells #[.int .i64 x_1, .bool x_2, .bool x_3, .string ⟨x_4.toArray⟩, .int .i64 x_5, .string ⟨x_6.toArray⟩, .slice x_7 x_8 x_9, .slice x_a x_b x_c] 28)).alloc (.cells zero7 28)) = w2 at *
    clear hww
    go_wp2_with fail
    refine HT.out.mono ?_
    rintro e8 w8 ⟨y8, rfl, hy, hb8⟩
    obtain ⟨j1, j2, j3, j4, j5, j6, j7, j8, j9, ja, jb, jc, rfl⟩ := In.cells hy
    have HY := Lib.hid (In.keep (on_keep7 (fun _ h => h) hb8) _ _ hy)
    have HB8 := Lib.hid (HB9.out.trans (hb8.mono HB9.out.size))
    have HZ8 := Lib.hid (HZ9.out.on hb8)
    clear hy hb8 HT
    obtain ⟨z0, z1, z2, z3, z4, z5, z6, z7⟩ := HZ8.out.eight
    have zf := HZ8.out.frozen
    have zl := HZ8.out.lt
    go_wp2_with fail
    refine bodyPost_ret (results_row (l := [_, _, _, _, _, _, _, _]) rfl _ _ _ rfl (HZ8.out.set8 _ _ _ _ _ _ _ _) Tryz.underlying28 rfl (by kernel_rfl)) rfl ?_
    exact ⟨_, rfl, In.keep (le_written1 (S' := fun b => S b ∨ w.heap.size ≤ b) (fun b h => by rcases h with h | h <;> first | (have := HS.out b h; have := HZL.out; omega) | (have := HZL.out; omega)) (fun b h => by rcases h with h | h <;> first | exact .inl h | (have := HZL.out; exact .inr (by omega))) _ _ _ _ _ _ _ _) _ _ HY.out, below_set8 HB8.out (by omega) _ _ _ _ _ _ _ _⟩

set_option linter.unusedVariables false in
set_option linter.unusedSimpArgs false in
set_option maxRecDepth 100000 in
set_option maxHeartbeats 2000000 in
theorem RemoveS_any (S : Nat → Prop) (v x : Vl) (ns : List (List UInt8)) (xv : Value) (xx : Value) (A : Option Addr) (e : Nat) (w : World) (h : HandedS S v x ns xv xx A e w) :
    Calls Tryz.prog 35 #[xv, .slice A ns.length e] w (EditF S (Ed.edit 2 ns v x) w) := by
  obtain ⟨hS, hv, hx, hs, he, hm, hl, hns, hne, hsz⟩ := h
  have HS := Lib.hid hS
  obtain ⟨k_1, k_2, k_3, k_4, k_5, k_6, k_7, k_8, k_9, k_a, k_b, k_c, rfl⟩ := In.cells hv
  by_cases h0 : ns = []
  · subst h0
    have hm' : e ≤ 9223372036854775807 := by unfold maxLen at hm; omega
    have HB := Lib.hid (below_two0 w (.cells #[.int .i64 k_1, .bool k_2, .bool k_3, .string ⟨k_4.toArray⟩, .int .i64 k_5, .string ⟨k_6.toArray⟩, .slice k_7 k_8 k_9, .slice k_a k_b k_c] 28) (.cells zero7 28))
    have HZ := Lib.hid (Blk.new2 w (.cells #[.int .i64 k_1, .bool k_2, .bool k_3, .string ⟨k_4.toArray⟩, .int .i64 k_5, .string ⟨k_6.toArray⟩, .slice k_7 k_8 k_9, .slice k_a k_b k_c] 28) 28 zero7)
    clear hv hx hs hns hne hsz hm
    go_enter Tryz.func35, Tryz.ntmps35
    go_wp2_with fail
    refine bodyPost_ret (results_row (l := [_, _, _, _, _, _, _, _]) rfl _ _ _ rfl HZ.out Tryz.underlying28 rfl (by kernel_rfl)) rfl ?_
    exact ⟨_, rfl, leaf7 _ 0 false Nm.Num.zero [], HB.out⟩
  · have HB := Lib.hid (below_two0 w (.cells #[.int .i64 k_1, .bool k_2, .bool k_3, .string ⟨k_4.toArray⟩, .int .i64 k_5, .string ⟨k_6.toArray⟩, .slice k_7 k_8 k_9, .slice k_a k_b k_c] 28) (.cells zero7 28))
    have HZ := Lib.hid (Blk.new2 w (.cells #[.int .i64 k_1, .bool k_2, .bool k_3, .string ⟨k_4.toArray⟩, .int .i64 k_5, .string ⟨k_6.toArray⟩, .slice k_7 k_8 k_9, .slice k_a k_b k_c] 28) 28 zero7)
    have HLT := Lib.hid (rem1_any S x ((w.alloc (.cells #[.int .i64 k_1, .bool k_2, .bool k_3, .string ⟨k_4.toArray⟩, .int .i64 k_5, .string ⟨k_6.toArray⟩, .slice k_7 k_8 k_9, .slice k_a k_b k_c] 28)).alloc (.cells zero7 28)) (fun b h => Nat.lt_of_lt_of_le (HS.out b h) HB.out.size))
    have HCH := Lib.hid (changed7_any 2 61 #[] x (enters_of Tryz.func61 (by kernel_rfl) rfl) ns h0 S v _ A e ((w.alloc (.cells #[.int .i64 k_1, .bool k_2, .bool k_3, .string ⟨k_4.toArray⟩, .int .i64 k_5, .string ⟨k_6.toArray⟩, .slice k_7 k_8 k_9, .slice k_a k_b k_c] 28)).alloc (.cells zero7 28)) (fun b h => Nat.lt_of_lt_of_le (HS.out b h) HB.out.size) HLT.out (In.keep (on_keep7 (S := S) (fun _ h => h) HB.out) _ _ hv) hne hsz (hs.keep (le_below HB.out)) he hm hl hns)
    have HSIX := Lib.hid (fun k (h : Ed.edit 2 ns v x = .bad k) => Ed.edit_six ns h0 h)
    have hm' : e ≤ 9223372036854775807 := by unfold maxLen at hm; omega
    have hn0 : 0 < ns.length := List.length_pos_iff.2 h0
    have hn1 : ((ns.length : Int) == 0) = false := by rw [beq_eq_false_iff_ne]; omega
    generalize Ed.edit 2 ns v x = R at *
    clear hv hx hs hns hne hsz hm h0 HLT
    go_enter Tryz.func35, Tryz.ntmps35
    go_wp2_with fail
    refine HCH.out.mono ?_
    rintro e9 w9 ⟨y9, rfl, hy, hb9⟩
    have HT := Lib.hid (told7_any (w9.on fun b => S b ∨ ((w.alloc (.cells #[.int .i64 k_1, .bool k_2, .bool k_3, .string ⟨k_4.toArray⟩, .int .i64 k_5, .string ⟨k_6.toArray⟩, .slice k_7 k_8 k_9, .slice k_a k_b k_c] 28)).alloc (.cells zero7 28)).heap.size ≤ b) R HSIX.out y9 w9 hy)
    have HB9 := Lib.hid (HB.out.trans (hb9.mono HB.out.size))
    have HZ9 := Lib.hid (HZ.out.on hb9)
    have HZL := Lib.hid HZ.out.lt
    clear hy hb9 HCH HSIX
    generalize hww : ((w.alloc (.cells #[.int .i64 k_1, .bool k_2, .bool k_3, .string ⟨k_4.toArray⟩, .int .i64 k_5, .string ⟨k_6.toArray⟩, .slice k_7 k_8 k_9, .slice k_a k_b k_c] 28)).alloc (.cells zero7 28)) = w2 at *
    clear hww
    go_wp2_with fail
    refine HT.out.mono ?_
    rintro e8 w8 ⟨y8, rfl, hy, hb8⟩
    obtain ⟨j1, j2, j3, j4, j5, j6, j7, j8, j9, ja, jb, jc, rfl⟩ := In.cells hy
    have HY := Lib.hid (In.keep (on_keep7 (fun _ h => h) hb8) _ _ hy)
    have HB8 := Lib.hid (HB9.out.trans (hb8.mono HB9.out.size))
    have HZ8 := Lib.hid (HZ9.out.on hb8)
    clear hy hb8 HT
    obtain ⟨z0, z1, z2, z3, z4, z5, z6, z7⟩ := HZ8.out.eight
    have zf := HZ8.out.frozen
    have zl := HZ8.out.lt
    go_wp2_with fail
    refine bodyPost_ret (results_row (l := [_, _, _, _, _, _, _, _]) rfl _ _ _ rfl (HZ8.out.set8 _ _ _ _ _ _ _ _) Tryz.underlying28 rfl (by kernel_rfl)) rfl ?_
    exact ⟨_, rfl, In.keep (le_written1 (S' := fun b => S b ∨ w.heap.size ≤ b) (fun b h => by rcases h with h | h <;> first | (have := HS.out b h; have := HZL.out; omega) | (have := HZL.out; omega)) (fun b h => by rcases h with h | h <;> first | exact .inl h | (have := HZL.out; exact .inr (by omega))) _ _ _ _ _ _ _ _) _ _ HY.out, below_set8 HB8.out (by omega) _ _ _ _ _ _ _ _⟩

set_option linter.unusedVariables false in
set_option linter.unusedSimpArgs false in
set_option maxRecDepth 100000 in
set_option maxHeartbeats 2000000 in
theorem ReplaceS_any (S : Nat → Prop) (v x : Vl) (ns : List (List UInt8)) (xv xx : Value) (A : Option Addr) (e : Nat) (w : World) (h : HandedS S v x ns xv xx A e w) :
    Calls Tryz.prog 36 #[xv, .slice A ns.length e, xx] w (EditF S (Ed.edit 3 ns v x) w) := by
  obtain ⟨hS, hv, hx, hs, he, hm, hl, hns, hne, hsz⟩ := h
  have HS := Lib.hid hS
  obtain ⟨k_1, k_2, k_3, k_4, k_5, k_6, k_7, k_8, k_9, k_a, k_b, k_c, rfl⟩ := In.cells hv
  obtain ⟨x_1, x_2, x_3, x_4, x_5, x_6, x_7, x_8, x_9, x_a, x_b, x_c, rfl⟩ := In.cells hx
  by_cases h0 : ns = []
  · subst h0
    have hm' : e ≤ 9223372036854775807 := by unfold maxLen at hm; omega
    have HX := Lib.hid hx
    have HB := Lib.hid (below_three7 w (.cells #[.int .i64 k_1, .bool k_2, .bool k_3, .string ⟨k_4.toArray⟩, .int .i64 k_5, .string ⟨k_6.toArray⟩, .slice k_7 k_8 k_9, .slice k_a k_b k_c] 28) (.cells #[.int .i64 x_1, .bool x_2, .bool x_3, .string ⟨x_4.toArray⟩, .int .i64 x_5, .string ⟨x_6.toArray⟩, .slice x_7 x_8 x_9, .slice x_a x_b x_c] 28) (.cells #[.int .i64 x_1, .bool x_2, .bool x_3, .string ⟨x_4.toArray⟩, .int .i64 x_5, .string ⟨x_6.toArray⟩, .slice x_7 x_8 x_9, .slice x_a x_b x_c] 28))
    have HZ := Lib.hid (Blk.new7 w (.cells #[.int .i64 k_1, .bool k_2, .bool k_3, .string ⟨k_4.toArray⟩, .int .i64 k_5, .string ⟨k_6.toArray⟩, .slice k_7 k_8 k_9, .slice k_a k_b k_c] 28) (.cells #[.int .i64 x_1, .bool x_2, .bool x_3, .string ⟨x_4.toArray⟩, .int .i64 x_5, .string ⟨x_6.toArray⟩, .slice x_7 x_8 x_9, .slice x_a x_b x_c] 28) 28 #[.int .i64 x_1, .bool x_2, .bool x_3, .string ⟨x_4.toArray⟩, .int .i64 x_5, .string ⟨x_6.toArray⟩, .slice x_7 x_8 x_9, .slice x_a x_b x_c])
    clear hv hx hs hns hne hsz hm
    go_enter Tryz.func36, Tryz.ntmps36
    go_wp2_with fail
    refine bodyPost_ret (results_row (l := [_, _, _, _, _, _, _, _]) rfl _ _ _ rfl HZ.out Tryz.underlying28 rfl (by kernel_rfl)) rfl ?_
    have hb := HB.out
    exact ⟨_, rfl, In.keep (on_keep7 (S' := fun b => S b ∨ w.heap.size ≤ b) (fun _ h => .inl h) hb) _ _ HX.out, hb⟩
  · have HB := Lib.hid (below_three7 w (.cells #[.int .i64 k_1, .bool k_2, .bool k_3, .string ⟨k_4.toArray⟩, .int .i64 k_5, .string ⟨k_6.toArray⟩, .slice k_7 k_8 k_9, .slice k_a k_b k_c] 28) (.cells #[.int .i64 x_1, .bool x_2, .bool x_3, .string ⟨x_4.toArray⟩, .int .i64 x_5, .string ⟨x_6.toArray⟩, .slice x_7 x_8 x_9, .slice x_a x_b x_c] 28) (.cells zero7 28))
    have HZ := Lib.hid (Blk.new7 w (.cells #[.int .i64 k_1, .bool k_2, .bool k_3, .string ⟨k_4.toArray⟩, .int .i64 k_5, .string ⟨k_6.toArray⟩, .slice k_7 k_8 k_9, .slice k_a k_b k_c] 28) (.cells #[.int .i64 x_1, .bool x_2, .bool x_3, .string ⟨x_4.toArray⟩, .int .i64 x_5, .string ⟨x_6.toArray⟩, .slice x_7 x_8 x_9, .slice x_a x_b x_c] 28) 28 zero7)
    have HLT := Lib.hid (replaced1_any S x (w.heap.size + 1) (((w.alloc (.cells #[.int .i64 k_1, .bool k_2, .bool k_3, .string ⟨k_4.toArray⟩, .int .i64 k_5, .string ⟨k_6.toArray⟩, .slice k_7 k_8 k_9, .slice k_a k_b k_c] 28)).alloc (.cells #[.int .i64 x_1, .bool x_2, .bool x_3, .string ⟨x_4.toArray⟩, .int .i64 x_5, .string ⟨x_6.toArray⟩, .slice x_7 x_8 x_9, .slice x_a x_b x_c] 28)).alloc (.cells zero7 28)) (fun b h => Nat.lt_of_lt_of_le (HS.out b h) HB.out.size) ((Blk.new2 w (.cells #[.int .i64 k_1, .bool k_2, .bool k_3, .string ⟨k_4.toArray⟩, .int .i64 k_5, .string ⟨k_6.toArray⟩, .slice k_7 k_8 k_9, .slice k_a k_b k_c] 28) 28 #[.int .i64 x_1, .bool x_2, .bool x_3, .string ⟨x_4.toArray⟩, .int .i64 x_5, .string ⟨x_6.toArray⟩, .slice x_7 x_8 x_9, .slice x_a x_b x_c]).alloc (.cells zero7 28)) (In.keep (on_keep7 (S := S) (fun _ h => h) HB.out) _ _ hx))
    have HCH := Lib.hid (changed7_any 3 62 #[.pointer (some ⟨w.heap.size + 1, 0, none⟩)] x (enters_of Tryz.func62 (by kernel_rfl) rfl) ns h0 S v _ A e (((w.alloc (.cells #[.int .i64 k_1, .bool k_2, .bool k_3, .string ⟨k_4.toArray⟩, .int .i64 k_5, .string ⟨k_6.toArray⟩, .slice k_7 k_8 k_9, .slice k_a k_b k_c] 28)).alloc (.cells #[.int .i64 x_1, .bool x_2, .bool x_3, .string ⟨x_4.toArray⟩, .int .i64 x_5, .string ⟨x_6.toArray⟩, .slice x_7 x_8 x_9, .slice x_a x_b x_c] 28)).alloc (.cells zero7 28)) (fun b h => Nat.lt_of_lt_of_le (HS.out b h) HB.out.size) HLT.out (In.keep (on_keep7 (S := S) (fun _ h => h) HB.out) _ _ hv) hne hsz (hs.keep (le_below HB.out)) he hm hl hns)
    have HSIX := Lib.hid (fun k (h : Ed.edit 3 ns v x = .bad k) => Ed.edit_six ns h0 h)
    have hm' : e ≤ 9223372036854775807 := by unfold maxLen at hm; omega
    have hn0 : 0 < ns.length := List.length_pos_iff.2 h0
    have hn1 : ((ns.length : Int) == 0) = false := by rw [beq_eq_false_iff_ne]; omega
    generalize Ed.edit 3 ns v x = R at *
    clear hv hx hs hns hne hsz hm h0 HLT
    go_enter Tryz.func36, Tryz.ntmps36
    go_wp2_with fail
    refine HCH.out.mono ?_
    rintro e9 w9 ⟨y9, rfl, hy, hb9⟩
    have HT := Lib.hid (told7_any (w9.on fun b => S b ∨ (((w.alloc (.cells #[.int .i64 k_1, .bool k_2, .bool k_3, .string ⟨k_4.toArray⟩, .int .i64 k_5, .string ⟨k_6.toArray⟩, .slice k_7 k_8 k_9, .slice k_a k_b k_c] 28)).alloc (.cells #[.int .i64 x_1, .bool x_2, .bool x_3, .string ⟨x_4.toArray⟩, .int .i64 x_5, .string ⟨x_6.toArray⟩, .slice x_7 x_8 x_9, .slice x_a x_b x_c] 28)).alloc (.cells zero7 28)).heap.size ≤ b) R HSIX.out y9 w9 hy)
    have HB9 := Lib.hid (HB.out.trans (hb9.mono HB.out.size))
    have HZ9 := Lib.hid (HZ.out.on hb9)
    have HZL := Lib.hid HZ.out.lt
    clear hy hb9 HCH HSIX
    generalize hww : (((w.alloc (.cells #[.int .i64 k_1, .bool k_2, .bool k_3, .string ⟨k_4.toArray⟩, .int .i64 k_5, .string ⟨k_6.toArray⟩, .slice k_7 k_8 k_9, .slice k_a k_b k_c] 28)).alloc (.cells #[.int .i64 x_1, .bool x_2, .bool x_3, .string ⟨x_4.toArray⟩, .int .i64 x_5, .string ⟨x_6.toArray⟩, .slice x_7 x_8 x_9, .slice x_a x_b x_c] 28)).alloc (.cells zero7 28)) = w2 at *
    clear hww
    go_wp2_with fail
    refine HT.out.mono ?_
    rintro e8 w8 ⟨y8, rfl, hy, hb8⟩
    obtain ⟨j1, j2, j3, j4, j5, j6, j7, j8, j9, ja, jb, jc, rfl⟩ := In.cells hy
    have HY := Lib.hid (In.keep (on_keep7 (fun _ h => h) hb8) _ _ hy)
    have HB8 := Lib.hid (HB9.out.trans (hb8.mono HB9.out.size))
    have HZ8 := Lib.hid (HZ9.out.on hb8)
    clear hy hb8 HT
    obtain ⟨z0, z1, z2, z3, z4, z5, z6, z7⟩ := HZ8.out.eight
    have zf := HZ8.out.frozen
    have zl := HZ8.out.lt
    go_wp2_with fail
    refine bodyPost_ret (results_row (l := [_, _, _, _, _, _, _, _]) rfl _ _ _ rfl (HZ8.out.set8 _ _ _ _ _ _ _ _) Tryz.underlying28 rfl (by kernel_rfl)) rfl ?_
    exact ⟨_, rfl, In.keep (le_written1 (S' := fun b => S b ∨ w.heap.size ≤ b) (fun b h => by rcases h with h | h <;> first | (have := HS.out b h; have := HZL.out; omega) | (have := HZL.out; omega)) (fun b h => by rcases h with h | h <;> first | exact .inl h | (have := HZL.out; exact .inr (by omega))) _ _ _ _ _ _ _ _) _ _ HY.out, below_set8 HB8.out (by omega) _ _ _ _ _ _ _ _⟩

end Go.Proofs.YtjjenpmahmbafaaGreatDoor

namespace Go.Proofs.YtjjenpmahmbafaaGreatDoor
open Go.RowKit Js

def Tm (v : Vl) : Prop := Ed.neat v = true ∧ Ap.tame v = true
theorem own_both {k : Int} {b : Bool} {n : Nm.Num} {s : List UInt8} {l : List Vl} {m : List Js.Mem} (h : Tm (.mk k b n s l m)) :
    0 ≤ k ∧ k ≤ 5 ∧ (¬ k = 1 → b = false) ∧ (¬ k = 2 → n = Nm.Num.zero) ∧ (¬ k = 3 → s = []) ∧ (¬ k = 4 → l = []) ∧ (¬ k = 5 → m = []) ∧ mayNum n = true ∧ True ∧ (∀ v ∈ l, Tm v) ∧ (∀ p ∈ m, Tm p.2) ∧ True := by
  obtain ⟨h4, h5, hl, hm, _⟩ := (Ed.neat_iff _ _ _ _ _ _).1 h.1
  obtain ⟨⟨o0, o1, o2, o3, o4, o5⟩, tl, tm⟩ := (Ap.tame_iff _ _ _ _ _ _).1 h.2
  exact ⟨o0, o1, o2, o3, o4, h4, h5, o5, trivial, fun v hv => ⟨hl v hv, tl v hv⟩, fun p hp => ⟨hm p hp, tm p hp⟩, trivial⟩
set_option linter.unusedVariables false in
set_option linter.unusedSimpArgs false in
set_option maxRecDepth 100000 in
set_option maxHeartbeats 2000000 in
theorem sameT_any (v : Vl) : ∀ (v' : Vl) (x x' : Value) (w : World), Tm v → Tm v' → v.In w.cell? x → v'.In w.cell? x' →
    Calls Tryz.prog 67 #[x, x'] w fun e w' => e = .returned (.bool (v.same v')) ∧ Below w.heap.size w w' := by
  induction v using Vl.ind with
  | h k b n s l m hl hm =>
  rintro ⟨k', b', n', s', l', m'⟩ x x' w hv hv' hx hx'
  obtain ⟨A, e, B, d, rfl, q1, q2, q3, q4, q5, q6⟩ := In.form hx
  obtain ⟨A', e', B', d', rfl, q1', q2', q3', q4', q5', q6'⟩ := In.form hx'
  obtain ⟨o0, o1, o2, o3, o4, o5, o6, o7, o8, o9, o10, o11⟩ := own_both hv
  obtain ⟨r0, r1, r2, r3, r4, r5, r6, r7, r8, r9, r10, r11⟩ := own_both hv'
  obtain ⟨neg, dg, ex⟩ := n
  obtain ⟨neg', dg', ex'⟩ := n'
  have HL := Lib.hid hl
  have HM := Lib.hid hm
  have H5 := Lib.hid (show SlL w.cell? A l from q5)
  have H6 := Lib.hid (show SlM w.cell? B m from q6)
  have H5' := Lib.hid (show SlL w.cell? A' l' from q5')
  have H6' := Lib.hid (show SlM w.cell? B' m' from q6')
  have HB : Below w.heap.size w _ := (((Below.refl _ _).alloc (Nat.le_refl _) (.cells #[.int .i64 k, .bool b, .bool neg, .string ⟨dg.toArray⟩, .int .i64 ex, .string ⟨s.toArray⟩, .slice A l.length e, .slice B m.length d] 28)).alloc (by simp) (.cells #[.int .i64 k', .bool b', .bool neg', .string ⟨dg'.toArray⟩, .int .i64 ex', .string ⟨s'.toArray⟩, .slice A' l'.length e', .slice B' m'.length d'] 28))
  clear hl hm hx hx' q5 q6 q5' q6' hv hv'
  simp only
  by_cases hk : k = k'
  · subst hk
    have hkk : k = 0 ∨ k = 1 ∨ k = 2 ∨ k = 3 ∨ k = 4 ∨ k = 5 := by omega
    rcases hkk with rfl | rfl | rfl | rfl | rfl | rfl
    · obtain rfl := o2 (by decide)
      obtain rfl := r2 (by decide)
      obtain e1 := o3 (by decide)
      obtain e1' := r3 (by decide)
      obtain rfl := o4 (by decide)
      obtain rfl := r4 (by decide)
      obtain rfl := o5 (by decide)
      obtain rfl := r5 (by decide)
      obtain rfl := o6 (by decide)
      obtain rfl := r6 (by decide)
      cases e1
      cases e1'
      have HS := Lib.hid (show (Vl.mk 0 false ⟨false, [], 0⟩ [] [] []).same (Vl.mk 0 false ⟨false, [], 0⟩ [] [] []) = true from same_refl _)
      clear o2 o3 o4 o5 o6 o7 o8 o9 o10 o11 r2 r3 r4 r5 r6 r7 r8 r9 r10 r11
      go_enter Tryz.func67, Tryz.ntmps67
      go_wp2_with fail
      go_ret
      exact ⟨by rw [show (⟨false, [], 0⟩ : Nm.Num) = ⟨false, [], 0⟩ from rfl, HS.out]; rfl, HB⟩
    · obtain e1 := o3 (by decide)
      obtain e1' := r3 (by decide)
      obtain rfl := o4 (by decide)
      obtain rfl := r4 (by decide)
      obtain rfl := o5 (by decide)
      obtain rfl := r5 (by decide)
      obtain rfl := o6 (by decide)
      obtain rfl := r6 (by decide)
      cases e1
      cases e1'
      have HS := Lib.hid (show (Vl.mk 1 b ⟨false, [], 0⟩ [] [] []).same (Vl.mk 1 b' ⟨false, [], 0⟩ [] [] []) = (b == b') by
        simp only [Vl.same, sameL, sameM, Bool.and_true, decide_true, Bool.true_and]
        cases b <;> cases b' <;> rfl)
      clear o2 o3 o4 o5 o6 o7 o8 o9 o10 o11 r2 r3 r4 r5 r6 r7 r8 r9 r10 r11
      go_enter Tryz.func67, Tryz.ntmps67
      go_wp2_with fail
      go_ret
      exact ⟨by rw [HS.out]; rfl, HB⟩
    · obtain rfl := o2 (by decide)
      obtain rfl := r2 (by decide)
      obtain rfl := o4 (by decide)
      obtain rfl := r4 (by decide)
      obtain rfl := o5 (by decide)
      obtain rfl := r5 (by decide)
      obtain rfl := o6 (by decide)
      obtain rfl := r6 (by decide)
      have hn := mayNum_May o7
      have hn' := mayNum_May r7
      have HSAME := Lib.hid (show (Vl.mk 2 false ⟨neg, dg, ex⟩ [] [] []).same (Vl.mk 2 false ⟨neg', dg', ex'⟩ [] [] []) = (Nm.cmp ⟨neg, dg, ex⟩ ⟨neg', dg', ex'⟩ == 0) by
        simp only [Vl.same, sameL, sameM, Bool.and_true, decide_true, Bool.true_and]
        rw [Bool.eq_iff_iff, decide_eq_true_eq, beq_iff_eq]
        exact (Nm.laws.same _ _ hn hn').symm)
      have HC := Lib.hid (fun W => cmp_any neg dg ex neg' dg' ex' W hn.fair hn'.fair)
      clear hn hn' o2 o3 o4 o5 o6 o7 o8 o9 o10 o11 r2 r3 r4 r5 r6 r7 r8 r9 r10 r11
      generalize Nm.cmp ⟨neg, dg, ex⟩ ⟨neg', dg', ex'⟩ = q at HSAME HC
      go_enter Tryz.func67, Tryz.ntmps67
      go_wp2_with fail
      refine (HC.out _).mono ?_
      rintro e1 w1 ⟨rfl, hb1⟩
      have hb := HB.trans (hb1.mono (by simp; omega))
      go_wp2_with fail
      go_ret
      exact ⟨by rw [HSAME.out]; rfl, hb⟩
    · obtain rfl := o2 (by decide)
      obtain rfl := r2 (by decide)
      obtain e1 := o3 (by decide)
      obtain e1' := r3 (by decide)
      obtain rfl := o5 (by decide)
      obtain rfl := r5 (by decide)
      obtain rfl := o6 (by decide)
      obtain rfl := r6 (by decide)
      cases e1
      cases e1'
      have HS := Lib.hid (show (Vl.mk 3 false ⟨false, [], 0⟩ s [] []).same (Vl.mk 3 false ⟨false, [], 0⟩ s' [] []) = (s == s') by
        simp only [Vl.same, sameL, sameM, Bool.and_true, decide_true, Bool.true_and]
        rw [Bool.eq_iff_iff, decide_eq_true_eq, beq_iff_eq])
      clear o2 o3 o4 o5 o6 o7 o8 o9 o10 o11 r2 r3 r4 r5 r6 r7 r8 r9 r10 r11
      go_enter Tryz.func67, Tryz.ntmps67
      go_wp2_with fail
      go_ret
      exact ⟨by rw [HS.out]; rfl, HB⟩
    · obtain rfl := o2 (by decide)
      obtain rfl := r2 (by decide)
      obtain e1 := o3 (by decide)
      obtain e1' := r3 (by decide)
      obtain rfl := o4 (by decide)
      obtain rfl := r4 (by decide)
      obtain rfl := o6 (by decide)
      obtain rfl := r6 (by decide)
      cases e1
      cases e1'
      have HS := Lib.hid (show (Vl.mk 4 false ⟨false, [], 0⟩ [] l []).same (Vl.mk 4 false ⟨false, [], 0⟩ [] l' []) = sameL l l' by
        simp only [Vl.same, sameL, sameM, Bool.and_true, decide_true, Bool.true_and])
      have HEQ := Lib.hid (fun W hs hs' => equalL_any l l' A A' e e' W q1 q1' q2 q2' hs hs' (fun v hv v' hv' x x' w hx hx' => HL.out v hv v' x x' w (o9 v hv) (r9 v' hv') hx hx'))
      have K1 := Lib.hid (H5.out.keep (le_below HB))
      have K2 := Lib.hid (H5'.out.keep (le_below HB))
      clear o2 o3 o4 o5 o6 o7 o8 o9 o10 o11 r2 r3 r4 r5 r6 r7 r8 r9 r10 r11
      unfold maxLen at q2 q2' q4 q4'
      generalize sameL l l' = q at HS HEQ
      go_enter Tryz.func67, Tryz.ntmps67
      go_wp2_with fail
      refine (HEQ.out _ K1.out K2.out).mono ?_
      rintro e1 w1 ⟨rfl, hb1⟩
      have hb := HB.trans (hb1.mono (by simp; omega))
      go_wp2_with fail
      go_ret
      exact ⟨by rw [HS.out]; rfl, hb⟩
    · obtain rfl := o2 (by decide)
      obtain rfl := r2 (by decide)
      obtain e1 := o3 (by decide)
      obtain e1' := r3 (by decide)
      obtain rfl := o4 (by decide)
      obtain rfl := r4 (by decide)
      obtain rfl := o5 (by decide)
      obtain rfl := r5 (by decide)
      cases e1
      cases e1'
      have HS := Lib.hid (show (Vl.mk 5 false ⟨false, [], 0⟩ [] [] m).same (Vl.mk 5 false ⟨false, [], 0⟩ [] [] m') = sameM m m' by
        simp only [Vl.same, sameL, sameM, Bool.and_true, decide_true, Bool.true_and])
      have HEQ := Lib.hid (fun W hs hs' => equalM_any m m' B B' d d' W q3 q3' q4 q4' hs hs' (fun v hv v' hv' x x' w hx hx' => HM.out v hv v'.2 x x' w (o10 v hv) (r10 v' hv') hx hx'))
      have K1 := Lib.hid (H6.out.keep (le_below HB))
      have K2 := Lib.hid (H6'.out.keep (le_below HB))
      clear o2 o3 o4 o5 o6 o7 o8 o9 o10 o11 r2 r3 r4 r5 r6 r7 r8 r9 r10 r11
      unfold maxLen at q2 q2' q4 q4'
      generalize sameM m m' = q at HS HEQ
      go_enter Tryz.func67, Tryz.ntmps67
      go_wp2_with fail
      refine (HEQ.out _ K1.out K2.out).mono ?_
      rintro e1 w1 ⟨rfl, hb1⟩
      have hb := HB.trans (hb1.mono (by simp; omega))
      go_wp2_with fail
      go_ret
      exact ⟨by rw [HS.out]; rfl, hb⟩
  · have t1 : (k == k') = false := by simpa using hk
    have t2 : (k != k') = true := by simpa using hk
    have HS := Lib.hid (show (Vl.mk k b ⟨neg, dg, ex⟩ s l m).same (Vl.mk k' b' ⟨neg', dg', ex'⟩ s' l' m') = false by simp [Vl.same, hk])
    clear hk o2 o3 o4 o5 o6 o7 o8 o9 o10 o11 r2 r3 r4 r5 r6 r7 r8 r9 r10 r11
    go_enter Tryz.func67, Tryz.ntmps67
    go_wp2_with fail
    go_ret
    exact ⟨by rw [HS.out]; rfl, HB⟩

end Go.Proofs.YtjjenpmahmbafaaGreatDoor

namespace Go.Proofs.YtjjenpmahmbafaaGreatDoor
open Go.RowKit Pt Js Oq

def Ap.much (v : Vl) : Nat := if 3000 < v.size then 5 else if 32 < v.depth then 3 else 0

set_option linter.unusedVariables false in
set_option maxHeartbeats 2000000 in
theorem spot9_any (i k : Int) (w : World) (hg : ErrT w) :
    Calls Tryz.prog 20 #[.int .i64 i, .iface 64 (.int .i64 k)] w fun e w' => ∃ b, e = .returned (spotV b) ∧ w.heap.size ≤ b ∧ SpotAt w' b i k ∧ Below w.heap.size w w' := by
  have HB := Lib.hid ((Below.refl w.heap.size w).alloc (Nat.le_refl _) (.cells #[.int .i64 0] 64))
  have HA := Lib.hid (as_code k w.heap.size (.int .i64 0) (w.alloc (.cells #[.int .i64 0] 64)) (hg.alloc _) (by simp) (by simp))
  clear hg
  go_enter Tryz.func20, Tryz.ntmps20
  go_wp2_with fail
  refine HA.out.mono ?_
  rintro e w2 ⟨rfl, hc, hb⟩
  have HB2 := Lib.hid (HB.out.trans hb)
  clear hb HA HB
  go_wp2_with fail
  go_ret
  exact ⟨w2.heap.size, rfl, HB2.out.size, ⟨by simp, by simp⟩, HB2.out.alloc HB2.out.size _⟩

set_option linter.unusedVariables false in
set_option linter.unusedSimpArgs false in
set_option maxRecDepth 100000 in
set_option maxHeartbeats 2000000 in
theorem eqNames_any (l m : List (List UInt8)) (A B : Option Addr) (e d : Nat) (w : World) (hs : Strs w.cell? A l) (ht : Strs w.cell? B m) (he : l.length ≤ e) (he2 : e ≤ maxLen) (hd : m.length ≤ d) (hd2 : d ≤ maxLen) :
    Calls Tryz.prog 66 #[.slice A l.length e, .slice B m.length d] w fun e w' => e = .returned (.bool (decide (l = m))) ∧ Below w.heap.size w w' := by
  have HS := Lib.hid hs
  have HT := Lib.hid ht
  unfold maxLen at he2 hd2
  clear hs ht
  by_cases hnm : l.length = m.length
  · rw [← hnm]
    go_enter Tryz.func66, Tryz.ntmps66
    go_wp2_with fail
    go_loopg [13] l.length (fun g s13 wr => ∃ k q : Nat, k ≤ l.length ∧ l.length - k ≤ g ∧ s13 = .int .i64 k ∧ wr = w.drewN q ∧ l.take k = m.take k)
    case atStart => exact ⟨0, 0, Nat.zero_le _, by omega, rfl, rfl, by simp⟩
    case round =>
      obtain ⟨k, q, hk, hg, rfl, rfl, heq⟩ := hrel
      have HEQ := Lib.hid heq
      clear heq
      by_cases hlt : k < l.length
      · obtain ⟨g1, o1, hA, c1⟩ := HS.out k _ (List.getElem?_eq_getElem hlt)
        obtain ⟨g2, o2, hB, c2⟩ := HT.out k _ (List.getElem?_eq_getElem (show k < m.length by omega))
        subst hA hB
        obtain ⟨x, hx⟩ : ∃ x, l[k] = x := ⟨_, rfl⟩
        obtain ⟨y, hy⟩ : ∃ y, m[k]'(by omega) = y := ⟨_, rfl⟩
        rw [hx] at c1
        rw [hy] at c2
        have HXY := Lib.hid (And.intro hx hy)
        clear hx hy HS HT
        by_cases hxy : x = y
        · subst hxy
          go_wp2_with fail
          go_region
          all_goals
            go_wp2_with fail
            go_roundg (l.length - (k + 1))
            case measure => omega
            case rel =>
              refine ⟨k + 1, q + 1, by omega, by omega, by go_num, rfl, ?_⟩
              rw [List.take_succ_eq_append_getElem hlt, List.take_succ_eq_append_getElem (show k < m.length by omega), HEQ.out, HXY.out.1, HXY.out.2]
        · have hkb : (x == y) = false := by simpa using hxy
          have HN := Lib.hid (show decide (l = m) = false from decide_eq_false (fun h => hxy (by rw [← HXY.out.1, ← HXY.out.2]; subst h; rfl)))
          clear hxy
          go_wp2_with fail
          go_region
          all_goals
            go_wp2_with fail
            go_ret
            exact ⟨by rw [HN.out]; rfl, (below_drewN (Below.refl _ _) _)⟩
      · have : k = l.length := by omega
        subst this
        have HN := Lib.hid (show decide (l = m) = true from decide_eq_true (by have h := HEQ.out; rw [List.take_length] at h; rw [h, hnm, List.take_length]))
        go_wp2_with fail
        go_ret
        exact ⟨by rw [HN.out]; rfl, (below_drewN (Below.refl _ _) _)⟩
  · have hq : ((l.length : Int) == (m.length : Int)) = false := by rw [beq_eq_false_iff_ne]; omega
    have hq' : ¬ (l.length : Int) = (m.length : Int) := by omega
    have HN := Lib.hid (show decide (l = m) = false from decide_eq_false (fun h => hnm (by rw [h])))
    go_enter Tryz.func66, Tryz.ntmps66
    go_wp2_with fail
    go_ret
    exact ⟨by rw [HN.out]; rfl, Below.refl _ _⟩

def Ap.into (l m : List (List UInt8)) : Bool := decide (m.length < l.length ∧ l.take m.length = m)

set_option linter.unusedVariables false in
set_option linter.unusedSimpArgs false in
set_option maxRecDepth 100000 in
set_option maxHeartbeats 2000000 in
theorem isWithin_any (l m : List (List UInt8)) (A B : Option Addr) (e d : Nat) (w : World) (hs : Strs w.cell? A l) (ht : Strs w.cell? B m) (he : l.length ≤ e) (he2 : e ≤ maxLen) (hd : m.length ≤ d) (hd2 : d ≤ maxLen) :
    Calls Tryz.prog 64 #[.slice A l.length e, .slice B m.length d] w fun e w' => e = .returned (.bool (Ap.into l m)) ∧ Below w.heap.size w w' := by
  by_cases hlt : m.length < l.length
  · have htl : (l.take m.length).length = m.length := by rw [List.length_take]; omega
    have hsn := eqNames_any (l.take m.length) m A B e d w (hs.take _) ht (by omega) he2 hd hd2
    rw [htl] at hsn
    have HSN := Lib.hid hsn
    have HI := Lib.hid (show Ap.into l m = decide (l.take m.length = m) by unfold Ap.into; simp [hlt])
    have hgt : decide ((m.length : Int) < (l.length : Int)) = true := by simp; omega
    have hle1 : (m.length : Int) ≤ (e : Int) := by omega
    unfold maxLen at he2 hd2
    clear hsn htl hs ht
    go_enter Tryz.func64, Tryz.ntmps64
    go_wp2_with fail
    refine HSN.out.mono ?_
    rintro e1 w1 ⟨rfl, hb1⟩
    go_wp2_with fail
    go_ret
    exact ⟨by rw [HI.out]; rfl, hb1⟩
  · have hgt : decide ((m.length : Int) < (l.length : Int)) = false := by simp; omega
    have HI := Lib.hid (show Ap.into l m = false by unfold Ap.into; simp [hlt])
    unfold maxLen at he2 hd2
    clear hs ht
    go_enter Tryz.func64, Tryz.ntmps64
    go_wp2_with fail
    go_ret
    exact ⟨by rw [HI.out]; rfl, Below.refl _ _⟩

set_option linter.unusedVariables false in
set_option linter.unusedSimpArgs false in
set_option maxRecDepth 100000 in
set_option maxHeartbeats 2000000 in
theorem tooMuch_any (v : Vl) (x : Value) (w : World) (hx : v.In w.cell? x) (hsz : v.size ≤ 1000000) :
    Calls Tryz.prog 19 #[x] w fun e w' => e = .returned (errV (Ap.much v)) ∧ Below w.heap.size w w' := by
  obtain ⟨k_1, k_2, k_3, k_4, k_5, k_6, k_7, k_8, k_9, k_a, k_b, k_c, rfl⟩ := In.cells hx
  have HB := Lib.hid ((Below.refl w.heap.size w).alloc (Nat.le_refl _) (.cells #[.int .i64 k_1, .bool k_2, .bool k_3, .string ⟨k_4.toArray⟩, .int .i64 k_5, .string ⟨k_6.toArray⟩, .slice k_7 k_8 k_9, .slice k_a k_b k_c] 28))
  have HK := Lib.hid (Blk.new w 28 #[.int .i64 k_1, .bool k_2, .bool k_3, .string ⟨k_4.toArray⟩, .int .i64 k_5, .string ⟨k_6.toArray⟩, .slice k_7 k_8 k_9, .slice k_a k_b k_c])
  have HX := Lib.hid (In.keep (le_alloc w (.cells #[.int .i64 k_1, .bool k_2, .bool k_3, .string ⟨k_4.toArray⟩, .int .i64 k_5, .string ⟨k_6.toArray⟩, .slice k_7 k_8 k_9, .slice k_a k_b k_c] 28)) _ _ hx)
  have HDL := Lib.hid (levels_size v)
  clear hx
  go_enter Tryz.func19, Tryz.ntmps19
  go_upto_region 1 with (fail)
  generalize w.alloc (.cells #[.int .i64 k_1, .bool k_2, .bool k_3, .string ⟨k_4.toArray⟩, .int .i64 k_5, .string ⟨k_6.toArray⟩, .slice k_7 k_8 k_9, .slice k_a k_b k_c] 28) = w0 at *
  have HSZ := Lib.hid (size_any v _ w0 HX.out (by omega))
  have HDP := Lib.hid (fun W (hb : Below w0.heap.size w0 W) => depth_any v _ W (In.keep (le_below hb) _ _ HX.out) (by have := HDL.out; omega))
  obtain ⟨a0, a1, a2, a3, a4, a5, a6, a7⟩ := HK.out.eight
  go_wp2_with fail
  refine HSZ.out.mono ?_
  rintro e1 w1 ⟨rfl, hb1⟩
  have HK1 := Lib.hid (HK.out.on hb1)
  have HB1 := Lib.hid (HB.out.trans (hb1.mono HB.out.size))
  have HDP1 := Lib.hid (HDP.out _ hb1)
  clear hb1 HSZ HDP HK HX a0 a1 a2 a3 a4 a5 a6 a7
  by_cases hbig : 3000 < v.size
  · have hd1 : decide ((3000 : Int) < (v.size : Int)) = true := by simp; omega
    have HM := Lib.hid (show Ap.much v = 5 from if_pos hbig)
    clear hbig
    go_wp2_with fail
    go_ret
    exact ⟨by rw [HM.out]; rfl, HB1.out⟩
  · have hd1 : decide ((3000 : Int) < (v.size : Int)) = false := by simp; omega
    have HM := Lib.hid (show Ap.much v = if 32 < v.depth then 3 else 0 from if_neg hbig)
    clear hbig
    obtain ⟨a0, a1, a2, a3, a4, a5, a6, a7⟩ := HK1.out.eight
    go_wp2_with fail
    refine HDP1.out.mono ?_
    rintro e2 w2 ⟨rfl, hb2⟩
    have HB2 := Lib.hid (HB1.out.trans (hb2.mono HB1.out.size))
    clear hb2
    by_cases hdeep : 32 < v.depth
    · have hd2 : decide ((32 : Int) < (v.depth : Int)) = true := by simp; omega
      have HM2 := Lib.hid (HM.out.trans (if_pos hdeep))
      clear hdeep
      go_wp2_with fail
      go_ret
      exact ⟨by rw [HM2.out]; rfl, HB2.out⟩
    · have hd2 : decide ((32 : Int) < (v.depth : Int)) = false := by simp; omega
      have HM2 := Lib.hid (HM.out.trans (if_neg hdeep))
      clear hdeep
      go_wp2_with fail
      go_ret
      exact ⟨by rw [HM2.out]; rfl, HB2.out⟩

end Go.Proofs.YtjjenpmahmbafaaGreatDoor

namespace Go.Proofs.YtjjenpmahmbafaaGreatDoor.Ap
open Js Pt Oq Ed
def copyOp (v : Vl) (p f : List (List UInt8)) : Ch := match get v f with
  | none => .bad 6
  | some u => edit 1 p v u
def testOp (v : Vl) (p : List (List UInt8)) (x : Vl) : Ch := match get v p with
  | none => .bad 6
  | some u => if u.same x = true then .ok v else .bad 8
def moveOp (v : Vl) (p f : List (List UInt8)) : Ch := if into p f = true then .bad 9 else match get v f with
  | none => .bad 6
  | some u => if f = p then .ok v else match edit 2 f v Ps.mkN with
    | .ok r => edit 1 p r u
    | .bad c => .bad c
theorem doOp_edit {v u : Vl} {q : Nat} {p f : List (List UInt8)} (hq : q ≤ 3) : doOp v ⟨q, p, f, u⟩ = edit q p v u := if_pos hq
theorem doOp_copy9 {v u : Vl} {q : Nat} {p f : List (List UInt8)} (hq : q = 5) : doOp v ⟨q, p, f, u⟩ = copyOp v p f := by
  subst hq; unfold doOp copyOp; simp
  cases get v f <;> rfl
theorem doOp_test9 {v u : Vl} {q : Nat} {p f : List (List UInt8)} (hq : q = 6) : doOp v ⟨q, p, f, u⟩ = testOp v p u := by
  subst hq; unfold doOp testOp; simp
  cases get v p <;> rfl
theorem doOp_move9 {v u : Vl} {q : Nat} {p f : List (List UInt8)} (hq : q = 4) : doOp v ⟨q, p, f, u⟩ = moveOp v p f := by
  subst hq
  unfold doOp moveOp into
  simp only [show ¬ (4 : Nat) ≤ 3 by omega, if_false, true_and, show ¬ (4 : Nat) = 6 by omega, if_true, decide_eq_true_eq]
  split
  · rfl
  · cases get v f with
    | none => rfl
    | some x =>
      simp only
      by_cases h : p = f
      · rw [if_pos h, if_pos h.symm]
      · rw [if_neg h, if_neg (fun k => h k.symm)]
        cases edit 2 f v Ps.mkN <;> rfl
theorem copy_none {v : Vl} {p f : List (List UInt8)} (h : get v f = none) : copyOp v p f = .bad 6 := by unfold copyOp; rw [h]
theorem copy_some {v u : Vl} {p f : List (List UInt8)} (h : get v f = some u) : copyOp v p f = edit 1 p v u := by unfold copyOp; rw [h]
theorem test_none {v x : Vl} {p : List (List UInt8)} (h : get v p = none) : testOp v p x = .bad 6 := by unfold testOp; rw [h]
theorem test_some {v u x : Vl} {p : List (List UInt8)} (h : get v p = some u) : testOp v p x = if u.same x = true then .ok v else .bad 8 := by unfold testOp; rw [h]
theorem move_into {v : Vl} {p f : List (List UInt8)} (h : into p f = true) : moveOp v p f = .bad 9 := if_pos h
theorem move_none {v : Vl} {p f : List (List UInt8)} (h : into p f = false) (hg : get v f = none) : moveOp v p f = .bad 6 := by
  unfold moveOp; rw [h, hg]; rfl
theorem move_stay {v u : Vl} {p f : List (List UInt8)} (h : into p f = false) (hg : get v f = some u) (he : f = p) : moveOp v p f = .ok v := by
  unfold moveOp; rw [h, hg]; simp only [Bool.false_eq_true, if_false, if_pos he]
theorem move_bad {v u : Vl} {p f : List (List UInt8)} {c : Nat} (h : into p f = false) (hg : get v f = some u) (he : ¬ f = p) (hd : edit 2 f v Ps.mkN = .bad c) : moveOp v p f = .bad c := by
  unfold moveOp; rw [h, hg]; simp only [Bool.false_eq_true, if_false, if_neg he, hd]
theorem move_on {v u r : Vl} {p f : List (List UInt8)} (h : into p f = false) (hg : get v f = some u) (he : ¬ f = p) (hd : edit 2 f v Ps.mkN = .ok r) : moveOp v p f = edit 1 p r u := by
  unfold moveOp; rw [h, hg]; simp only [Bool.false_eq_true, if_false, if_neg he, hd]
end Go.Proofs.YtjjenpmahmbafaaGreatDoor.Ap
namespace Go.Proofs.YtjjenpmahmbafaaGreatDoor
open Go.RowKit Pt Js Oq

theorem errV_pos {c : Nat} (hc : ¬ c = 0) : errV (c : Int) = .iface 64 (.int .i64 c) := if_neg (by omega)
theorem edit9 {w wr : World} {S : Nat → Prop} (hS : ∀ b, S b → b < w.heap.size) (hb : Below w.heap.size w wr) {g B : Nat} (hg : w.heap.size ≤ g) (hB : g < B) {r : Ed.Ch} {j_1 : Int} {j_2 j_3 : Bool} {j_4 : List UInt8} {j_5 : Int} {j_6 : List UInt8} {j_7 : Option Addr} {j_8 j_9 : Nat} {j_a : Option Addr} {j_b j_c : Nat} (hz : (Ed.resZ r).In (wr.on fun b => S b ∨ B ≤ b) (.agg #[.int .i64 j_1, .bool j_2, .bool j_3, .string ⟨j_4.toArray⟩, .int .i64 j_5, .string ⟨j_6.toArray⟩, .slice j_7 j_8 j_9, .slice j_a j_b j_c])) :
    EditF S r w (.returned (.tuple #[.agg #[.int .i64 j_1, .bool j_2, .bool j_3, .string ⟨j_4.toArray⟩, .int .i64 j_5, .string ⟨j_6.toArray⟩, .slice j_7 j_8 j_9, .slice j_a j_b j_c], errV (Ed.resC r)])) (set8 wr g (.int .i64 j_1) (.bool j_2) (.bool j_3) (.string ⟨j_4.toArray⟩) (.int .i64 j_5) (.string ⟨j_6.toArray⟩) (.slice j_7 j_8 j_9) (.slice j_a j_b j_c)) :=
  ⟨_, rfl, In.keep (on_keep (fun b hb _ => hb.imp id (fun k => by omega)) (fun b hb _ => heap_set8 _ _ _ (by rcases hb with k | k; have := hS b k; omega; omega) _ _ _ _ _ _ _ _)) _ _ hz, below_set8 hb hg _ _ _ _ _ _ _ _⟩
theorem bad9 {w wr : World} {S : Nat → Prop} (hb : Below w.heap.size w wr) {g : Nat} (hg : w.heap.size ≤ g) {r : Ed.Ch} {c : Nat} (hr : r = .bad c) (hc : ¬ c = 0) :
    EditF S r w (.returned (.tuple #[.agg zeroC, .iface 64 (.int .i64 c)])) (set8 wr g (.int .i64 0) (.bool false) (.bool false) (.string ⟨#[]⟩) (.int .i64 0) (.string ⟨#[]⟩) (.slice none 0 0) (.slice none 0 0)) := by
  subst hr
  exact ⟨_, by rw [← errV_pos hc]; rfl, leaf_in _ 0 false Nm.Num.zero [], below_set8 hb hg _ _ _ _ _ _ _ _⟩
theorem old9 {w wr : World} {S : Nat → Prop} (hS : ∀ b, S b → b < w.heap.size) (hb : Below w.heap.size w wr) {g : Nat} (hg : w.heap.size ≤ g) {r : Ed.Ch} {z : Vl} (hr : r = .ok z) {j_1 : Int} {j_2 j_3 : Bool} {j_4 : List UInt8} {j_5 : Int} {j_6 : List UInt8} {j_7 : Option Addr} {j_8 j_9 : Nat} {j_a : Option Addr} {j_b j_c : Nat} (hz : z.In (w.on S) (.agg #[.int .i64 j_1, .bool j_2, .bool j_3, .string ⟨j_4.toArray⟩, .int .i64 j_5, .string ⟨j_6.toArray⟩, .slice j_7 j_8 j_9, .slice j_a j_b j_c])) :
    EditF S r w (.returned (.tuple #[.agg #[.int .i64 j_1, .bool j_2, .bool j_3, .string ⟨j_4.toArray⟩, .int .i64 j_5, .string ⟨j_6.toArray⟩, .slice j_7 j_8 j_9, .slice j_a j_b j_c], .nilIface])) (set8 wr g (.int .i64 j_1) (.bool j_2) (.bool j_3) (.string ⟨j_4.toArray⟩) (.int .i64 j_5) (.string ⟨j_6.toArray⟩) (.slice j_7 j_8 j_9) (.slice j_a j_b j_c)) := by
  subst hr
  exact ⟨_, rfl, In.keep (on_keep (fun b hb _ => .inl hb) (fun b hk _ => (heap_set8 _ _ _ (by have := hS b hk; omega) _ _ _ _ _ _ _ _).trans (hb.block b (hS b hk)))) _ _ hz, below_set8 hb hg _ _ _ _ _ _ _ _⟩

structure HandedC (S : Nat → Prop) (v : Vl) (p f : List (List UInt8)) (xv : Value) (A : Option Addr) (e : Nat) (B : Option Addr) (d : Nat) (w : World) : Prop where
  hS : ∀ b, S b → b < w.heap.size
  hv : v.In (w.on S) xv
  hP : Strs w.cell? A p
  hp : p.length ≤ e
  hpm : e ≤ maxLen
  hF : Strs w.cell? B f
  hf : f.length ≤ d
  hfm : d ≤ maxLen
  pn : (∀ n ∈ p, n.length ≤ 1000000) ∧ p.length ≤ 100000
  fn : (∀ n ∈ f, n.length ≤ 1000000) ∧ f.length ≤ 100000
  neat : Ed.neat v = true
  size : v.size ≤ 3000

set_option linter.unusedVariables false in
set_option linter.unusedSimpArgs false in
set_option maxRecDepth 100000 in
set_option maxHeartbeats 4000000 in
theorem copied_any (S : Nat → Prop) (v : Vl) (p f : List (List UInt8)) (xv : Value) (A : Option Addr) (e : Nat) (B : Option Addr) (d : Nat) (w : World) (h : HandedC S v p f xv A e B d w) :
    Calls Tryz.prog 38 #[xv, .slice B f.length d, .slice A p.length e] w (EditF S (Ap.copyOp v p f) w) := by
  obtain ⟨k_1, k_2, k_3, k_4, k_5, k_6, k_7, k_8, k_9, k_a, k_b, k_c, rfl⟩ := In.cells h.hv
  have HH := Lib.hid h
  have HE0 := Lib.hid (show Box9 w S #[.int .i64 k_1, .bool k_2, .bool k_3, .string ⟨k_4.toArray⟩, .int .i64 k_5, .string ⟨k_6.toArray⟩, .slice k_7 k_8 k_9, .slice k_a k_b k_c] ((w.alloc (.cells #[.int .i64 k_1, .bool k_2, .bool k_3, .string ⟨k_4.toArray⟩, .int .i64 k_5, .string ⟨k_6.toArray⟩, .slice k_7 k_8 k_9, .slice k_a k_b k_c] 28)).alloc (.cells zeroC 28)) from
    ⟨(Blk.new w 28 #[.int .i64 k_1, .bool k_2, .bool k_3, .string ⟨k_4.toArray⟩, .int .i64 k_5, .string ⟨k_6.toArray⟩, .slice k_7 k_8 k_9, .slice k_a k_b k_c]).alloc _, Blk.new2 w (.cells #[.int .i64 k_1, .bool k_2, .bool k_3, .string ⟨k_4.toArray⟩, .int .i64 k_5, .string ⟨k_6.toArray⟩, .slice k_7 k_8 k_9, .slice k_a k_b k_c] 28) 28 _, (((Below.refl w.heap.size w).alloc (Nat.le_refl _) _).alloc (by simp) _), h.hS⟩)
  have hpm : e ≤ 9223372036854775807 := h.hpm
  have hfm : d ≤ 9223372036854775807 := h.hfm
  clear h
  go_enter Tryz.func38, Tryz.ntmps38
  go_upto_region 1 with (fail)
  generalize (w.alloc (.cells #[.int .i64 k_1, .bool k_2, .bool k_3, .string ⟨k_4.toArray⟩, .int .i64 k_5, .string ⟨k_6.toArray⟩, .slice k_7 k_8 k_9, .slice k_a k_b k_c] 28)).alloc (.cells zeroC 28) = w0 at *
  have HG := Lib.hid (ptrGetM_any _ neat_steps (w.on S) v f _ B d w0 HH.out.neat (by have := HH.out.size; omega) ((on_all _ _).trans (le_below HE0.out.below)) HH.out.hv (HH.out.hF.keep (le_below HE0.out.below)) HH.out.hf HH.out.hfm HH.out.fn.1 (by have := HH.out.fn.2; omega))
  obtain ⟨a0, a1, a2, a3, a4, a5, a6, a7⟩ := HE0.out.v.eight
  go_wp2_with fail
  refine HG.out.mono ?_
  rintro e2 w2 ⟨hb2, ⟨u, y, hu, rfl, hy⟩ | ⟨hn, y, rfl, hy⟩⟩
  · obtain ⟨j_1, j_2, j_3, j_4, j_5, j_6, j_7, j_8, j_9, j_a, j_b, j_c, rfl⟩ := In.cells hy
    have hb2a := hb2.alloc hb2.size (.cells #[.int .i64 j_1, .bool j_2, .bool j_3, .string ⟨j_4.toArray⟩, .int .i64 j_5, .string ⟨j_6.toArray⟩, .slice j_7 j_8 j_9, .slice j_a j_b j_c] 28)
    have HE2 := Lib.hid (HE0.out.on hb2a)
    have HK2 := Lib.hid (Blk.new w2 28 #[.int .i64 j_1, .bool j_2, .bool j_3, .string ⟨j_4.toArray⟩, .int .i64 j_5, .string ⟨j_6.toArray⟩, .slice j_7 j_8 j_9, .slice j_a j_b j_c])
    have HR := Lib.hid (Ap.copy_some (p := p) hu)
    have HY := Lib.hid hy
    clear hu hy hb2 hb2a HG HE0 a0 a1 a2 a3 a4 a5 a6 a7
    go_upto_region 2 with (fail)
    generalize w2.alloc (.cells #[.int .i64 j_1, .bool j_2, .bool j_3, .string ⟨j_4.toArray⟩, .int .i64 j_5, .string ⟨j_6.toArray⟩, .slice j_7 j_8 j_9, .slice j_a j_b j_c] 28) = w3 at *
    generalize w2.heap.size = g8 at *
    have hs3 := HE2.out.size
    have HAD := Lib.hid (AddS_any S v u p _ _ A e w3 ⟨fun b hb => by have := HH.out.hS b hb; omega, In.keep (on_keep7 (fun _ h => h) HE2.out.below) _ _ HH.out.hv, In.keep (on_keep7 (fun _ h => h) HE2.out.below) _ _ HY.out, HH.out.hP.keep (le_below HE2.out.below), HH.out.hp, HH.out.hpm, by have := HH.out.pn.2; omega, HH.out.pn.1, HH.out.neat, by have := HH.out.size; omega⟩)
    obtain ⟨a0, a1, a2, a3, a4, a5, a6, a7⟩ := HE2.out.v.eight
    obtain ⟨b0, b1, b2, b3, b4, b5, b6, b7⟩ := HK2.out.eight
    go_wp2_with fail
    refine HAD.out.mono ?_
    rintro e4 w4 ⟨y4, rfl, hz4, hb4⟩
    obtain ⟨m_1, m_2, m_3, m_4, m_5, m_6, m_7, m_8, m_9, m_a, m_b, m_c, rfl⟩ := In.cells hz4
    have HE4 := Lib.hid (HE2.out.on hb4)
    have HZ4 := Lib.hid hz4
    clear hz4 hb4 HAD HE2 HK2 a0 a1 a2 a3 a4 a5 a6 a7 b0 b1 b2 b3 b4 b5 b6 b7
    obtain ⟨z0, z1, z2, z3, z4, z5, z6, z7⟩ := HE4.out.r.eight
    have zf := HE4.out.r.frozen
    have zl := HE4.out.r.lt
    go_wp2_with fail
    refine bodyPost_ret (results_row (l := [_, _, _, _, _, _, _, _]) rfl _ _ _ rfl (HE4.out.r.set8 _ _ _ _ _ _ _ _) Tryz.underlying28 rfl (by kernel_rfl)) rfl ?_
    rw [HR.out]
    exact edit9 HH.out.hS HE4.out.below (by omega) (by omega) HZ4.out
  · obtain ⟨j_1, j_2, j_3, j_4, j_5, j_6, j_7, j_8, j_9, j_a, j_b, j_c, rfl⟩ := In.cells hy
    have hb2a := hb2.alloc hb2.size (.cells #[.int .i64 j_1, .bool j_2, .bool j_3, .string ⟨j_4.toArray⟩, .int .i64 j_5, .string ⟨j_6.toArray⟩, .slice j_7 j_8 j_9, .slice j_a j_b j_c] 28)
    have HE2 := Lib.hid (HE0.out.on hb2a)
    have HR := Lib.hid (Ap.copy_none (p := p) hn)
    clear hn hy hb2 hb2a HG HE0 a0 a1 a2 a3 a4 a5 a6 a7
    go_upto_region 2 with (fail)
    generalize w2.alloc (.cells #[.int .i64 j_1, .bool j_2, .bool j_3, .string ⟨j_4.toArray⟩, .int .i64 j_5, .string ⟨j_6.toArray⟩, .slice j_7 j_8 j_9, .slice j_a j_b j_c] 28) = w3 at *
    generalize w2.heap.size = g8 at *
    obtain ⟨z0, z1, z2, z3, z4, z5, z6, z7⟩ := HE2.out.r.eight
    have zf := HE2.out.r.frozen
    have zl := HE2.out.r.lt
    go_wp2_with fail
    refine bodyPost_ret (results_row (l := [_, _, _, _, _, _, _, _]) rfl _ _ _ rfl (HE2.out.r.set8 _ _ _ _ _ _ _ _) Tryz.underlying28 rfl (by kernel_rfl)) rfl ?_
    exact bad9 (c := 6) HE2.out.below (by omega) HR.out (by omega)

structure Tst9 (w : World) (V X : Array Value) (wr : World) : Prop where
  v : Blk wr w.heap.size 28 V
  x : Blk wr (w.heap.size + 1) 28 X
  r : Blk wr (w.heap.size + 2) 28 zeroC
  below : Below w.heap.size w wr
theorem Tst9.on {w wr w' : World} {V X : Array Value} (h : Tst9 w V X wr) (hb : Below wr.heap.size wr w') : Tst9 w V X w' := ⟨h.v.on hb, h.x.on hb, h.r.on hb, h.below.trans (hb.mono h.below.size)⟩

set_option linter.unusedVariables false in
set_option linter.unusedSimpArgs false in
set_option maxRecDepth 100000 in
set_option maxHeartbeats 4000000 in
theorem tested_any (S : Nat → Prop) (v x : Vl) (p : List (List UInt8)) (xv xx : Value) (A : Option Addr) (e : Nat) (w : World) (h : HandedS S v x p xv xx A e w) (ht : Ap.tame v = true) (hxt : Ed.neat x = true ∧ Ap.tame x = true) :
    Calls Tryz.prog 39 #[xv, .slice A p.length e, xx] w (EditF S (Ap.testOp v p x) w) := by
  obtain ⟨k_1, k_2, k_3, k_4, k_5, k_6, k_7, k_8, k_9, k_a, k_b, k_c, rfl⟩ := In.cells h.hv
  obtain ⟨x_1, x_2, x_3, x_4, x_5, x_6, x_7, x_8, x_9, x_a, x_b, x_c, rfl⟩ := In.cells h.hx
  have HH := Lib.hid h
  have HT := Lib.hid ht
  have HXT := Lib.hid hxt
  have HE0 := Lib.hid (show Tst9 w #[.int .i64 k_1, .bool k_2, .bool k_3, .string ⟨k_4.toArray⟩, .int .i64 k_5, .string ⟨k_6.toArray⟩, .slice k_7 k_8 k_9, .slice k_a k_b k_c] #[.int .i64 x_1, .bool x_2, .bool x_3, .string ⟨x_4.toArray⟩, .int .i64 x_5, .string ⟨x_6.toArray⟩, .slice x_7 x_8 x_9, .slice x_a x_b x_c] (((w.alloc (.cells #[.int .i64 k_1, .bool k_2, .bool k_3, .string ⟨k_4.toArray⟩, .int .i64 k_5, .string ⟨k_6.toArray⟩, .slice k_7 k_8 k_9, .slice k_a k_b k_c] 28)).alloc (.cells #[.int .i64 x_1, .bool x_2, .bool x_3, .string ⟨x_4.toArray⟩, .int .i64 x_5, .string ⟨x_6.toArray⟩, .slice x_7 x_8 x_9, .slice x_a x_b x_c] 28)).alloc (.cells zeroC 28)) from
    ⟨((Blk.new w 28 #[.int .i64 k_1, .bool k_2, .bool k_3, .string ⟨k_4.toArray⟩, .int .i64 k_5, .string ⟨k_6.toArray⟩, .slice k_7 k_8 k_9, .slice k_a k_b k_c]).alloc _).alloc _, (Blk.new2 w (.cells #[.int .i64 k_1, .bool k_2, .bool k_3, .string ⟨k_4.toArray⟩, .int .i64 k_5, .string ⟨k_6.toArray⟩, .slice k_7 k_8 k_9, .slice k_a k_b k_c] 28) 28 _).alloc _, Blk.new3 _ _ _ _ _, below_three _ _ _ _⟩)
  have hpm : e ≤ 9223372036854775807 := h.hm
  clear h ht hxt
  go_enter Tryz.func39, Tryz.ntmps39
  go_upto_region 1 with (fail)
  generalize ((w.alloc (.cells #[.int .i64 k_1, .bool k_2, .bool k_3, .string ⟨k_4.toArray⟩, .int .i64 k_5, .string ⟨k_6.toArray⟩, .slice k_7 k_8 k_9, .slice k_a k_b k_c] 28)).alloc (.cells #[.int .i64 x_1, .bool x_2, .bool x_3, .string ⟨x_4.toArray⟩, .int .i64 x_5, .string ⟨x_6.toArray⟩, .slice x_7 x_8 x_9, .slice x_a x_b x_c] 28)).alloc (.cells zeroC 28) = w0 at *
  have HG := Lib.hid (ptrGetM_any _ neat_steps (w.on S) v p _ A e w0 HH.out.hne HH.out.hsz ((on_all _ _).trans (le_below HE0.out.below)) HH.out.hv (HH.out.hs.keep (le_below HE0.out.below)) HH.out.he HH.out.hm HH.out.hns HH.out.hl)
  obtain ⟨a0, a1, a2, a3, a4, a5, a6, a7⟩ := HE0.out.v.eight
  go_wp2_with fail
  refine HG.out.mono ?_
  rintro e2 w2 ⟨hb2, ⟨u, y, hu, rfl, hy⟩ | ⟨hn, y, rfl, hy⟩⟩
  · obtain ⟨j_1, j_2, j_3, j_4, j_5, j_6, j_7, j_8, j_9, j_a, j_b, j_c, rfl⟩ := In.cells hy
    have hb2a := hb2.alloc hb2.size (.cells #[.int .i64 j_1, .bool j_2, .bool j_3, .string ⟨j_4.toArray⟩, .int .i64 j_5, .string ⟨j_6.toArray⟩, .slice j_7 j_8 j_9, .slice j_a j_b j_c] 28)
    have HE2 := Lib.hid (HE0.out.on hb2a)
    have HK2 := Lib.hid (Blk.new w2 28 #[.int .i64 j_1, .bool j_2, .bool j_3, .string ⟨j_4.toArray⟩, .int .i64 j_5, .string ⟨j_6.toArray⟩, .slice j_7 j_8 j_9, .slice j_a j_b j_c])
    have HR := Lib.hid (Ap.test_some (x := x) hu)
    have HTM := Lib.hid (show Tm u from ⟨(Ap.get_neat p HH.out.hne hu).1, Ap.tame_get p HT.out hu⟩)
    have HY := Lib.hid hy
    clear hu hy hb2 hb2a HG HE0 a0 a1 a2 a3 a4 a5 a6 a7
    go_upto_region 2 with (fail)
    generalize w2.alloc (.cells #[.int .i64 j_1, .bool j_2, .bool j_3, .string ⟨j_4.toArray⟩, .int .i64 j_5, .string ⟨j_6.toArray⟩, .slice j_7 j_8 j_9, .slice j_a j_b j_c] 28) = w3 at *
    generalize w2.heap.size = g8 at *
    have hcl := (on_all w S).trans (le_below HE2.out.below)
    have HSM := Lib.hid (sameT_any u x _ _ w3 HTM.out HXT.out (In.keep hcl _ _ HY.out) (In.keep hcl _ _ HH.out.hx))
    obtain ⟨sb, hsb⟩ : ∃ sb, u.same x = sb := ⟨_, rfl⟩
    rw [hsb] at HSM HR
    clear hsb hcl
    obtain ⟨a0, a1, a2, a3, a4, a5, a6, a7⟩ := HE2.out.x.eight
    obtain ⟨b0, b1, b2, b3, b4, b5, b6, b7⟩ := HK2.out.eight
    go_wp2_with fail
    refine HSM.out.mono ?_
    rintro e4 w4 ⟨rfl, hb4⟩
    have HE4 := Lib.hid (HE2.out.on hb4)
    clear hb4 HSM HE2 HK2 a0 a1 a2 a3 a4 a5 a6 a7 b0 b1 b2 b3 b4 b5 b6 b7
    obtain ⟨z0, z1, z2, z3, z4, z5, z6, z7⟩ := HE4.out.r.eight
    have zf := HE4.out.r.frozen
    have zl := HE4.out.r.lt
    obtain ⟨a0, a1, a2, a3, a4, a5, a6, a7⟩ := HE4.out.v.eight
    cases sb with
    | false =>
      go_wp2_with fail
      refine bodyPost_ret (results_row (l := [_, _, _, _, _, _, _, _]) rfl _ _ _ rfl (HE4.out.r.set8 _ _ _ _ _ _ _ _) Tryz.underlying28 rfl (by kernel_rfl)) rfl ?_
      exact bad9 (c := 8) HE4.out.below (by omega) (HR.out.trans rfl) (by omega)
    | true =>
      go_wp2_with fail
      refine bodyPost_ret (results_row (l := [_, _, _, _, _, _, _, _]) rfl _ _ _ rfl (HE4.out.r.set8 _ _ _ _ _ _ _ _) Tryz.underlying28 rfl (by kernel_rfl)) rfl ?_
      exact old9 (z := v) HH.out.hS HE4.out.below (by omega) (HR.out.trans rfl) HH.out.hv
  · obtain ⟨j_1, j_2, j_3, j_4, j_5, j_6, j_7, j_8, j_9, j_a, j_b, j_c, rfl⟩ := In.cells hy
    have hb2a := hb2.alloc hb2.size (.cells #[.int .i64 j_1, .bool j_2, .bool j_3, .string ⟨j_4.toArray⟩, .int .i64 j_5, .string ⟨j_6.toArray⟩, .slice j_7 j_8 j_9, .slice j_a j_b j_c] 28)
    have HE2 := Lib.hid (HE0.out.on hb2a)
    have HR := Lib.hid (Ap.test_none (x := x) hn)
    clear hn hy hb2 hb2a HG HE0 a0 a1 a2 a3 a4 a5 a6 a7
    go_upto_region 2 with (fail)
    generalize w2.alloc (.cells #[.int .i64 j_1, .bool j_2, .bool j_3, .string ⟨j_4.toArray⟩, .int .i64 j_5, .string ⟨j_6.toArray⟩, .slice j_7 j_8 j_9, .slice j_a j_b j_c] 28) = w3 at *
    generalize w2.heap.size = g8 at *
    obtain ⟨z0, z1, z2, z3, z4, z5, z6, z7⟩ := HE2.out.r.eight
    have zf := HE2.out.r.frozen
    have zl := HE2.out.r.lt
    go_wp2_with fail
    refine bodyPost_ret (results_row (l := [_, _, _, _, _, _, _, _]) rfl _ _ _ rfl (HE2.out.r.set8 _ _ _ _ _ _ _ _) Tryz.underlying28 rfl (by kernel_rfl)) rfl ?_
    exact bad9 (c := 6) HE2.out.below (by omega) HR.out (by omega)

end Go.Proofs.YtjjenpmahmbafaaGreatDoor

namespace Go.Proofs.YtjjenpmahmbafaaGreatDoor
open Go.RowKit Pt Js Oq

set_option linter.unusedVariables false in
set_option linter.unusedSimpArgs false in
set_option maxRecDepth 100000 in
set_option maxHeartbeats 8000000 in
theorem moved_any (S : Nat → Prop) (v : Vl) (p f : List (List UInt8)) (xv : Value) (A : Option Addr) (e : Nat) (B : Option Addr) (d : Nat) (w : World) (h : HandedC S v p f xv A e B d w) :
    Calls Tryz.prog 37 #[xv, .slice B f.length d, .slice A p.length e] w (EditF S (Ap.moveOp v p f) w) := by
  obtain ⟨k_1, k_2, k_3, k_4, k_5, k_6, k_7, k_8, k_9, k_a, k_b, k_c, rfl⟩ := In.cells h.hv
  have HH := Lib.hid h
  have HE0 := Lib.hid (show Box9 w S #[.int .i64 k_1, .bool k_2, .bool k_3, .string ⟨k_4.toArray⟩, .int .i64 k_5, .string ⟨k_6.toArray⟩, .slice k_7 k_8 k_9, .slice k_a k_b k_c] ((w.alloc (.cells #[.int .i64 k_1, .bool k_2, .bool k_3, .string ⟨k_4.toArray⟩, .int .i64 k_5, .string ⟨k_6.toArray⟩, .slice k_7 k_8 k_9, .slice k_a k_b k_c] 28)).alloc (.cells zeroC 28)) from
    ⟨(Blk.new w 28 #[.int .i64 k_1, .bool k_2, .bool k_3, .string ⟨k_4.toArray⟩, .int .i64 k_5, .string ⟨k_6.toArray⟩, .slice k_7 k_8 k_9, .slice k_a k_b k_c]).alloc _, Blk.new2 w (.cells #[.int .i64 k_1, .bool k_2, .bool k_3, .string ⟨k_4.toArray⟩, .int .i64 k_5, .string ⟨k_6.toArray⟩, .slice k_7 k_8 k_9, .slice k_a k_b k_c] 28) 28 _, (((Below.refl w.heap.size w).alloc (Nat.le_refl _) _).alloc (by simp) _), h.hS⟩)
  have hpm : e ≤ 9223372036854775807 := h.hpm
  have hfm : d ≤ 9223372036854775807 := h.hfm
  clear h
  go_enter Tryz.func37, Tryz.ntmps37
  go_upto_region 1 with (fail)
  generalize (w.alloc (.cells #[.int .i64 k_1, .bool k_2, .bool k_3, .string ⟨k_4.toArray⟩, .int .i64 k_5, .string ⟨k_6.toArray⟩, .slice k_7 k_8 k_9, .slice k_a k_b k_c] 28)).alloc (.cells zeroC 28) = w0 at *
  have HWI := Lib.hid (isWithin_any p f A B e d w0 (HH.out.hP.keep (le_below HE0.out.below)) (HH.out.hF.keep (le_below HE0.out.below)) HH.out.hp HH.out.hpm HH.out.hf HH.out.hfm)
  obtain ⟨ib, hib⟩ : ∃ ib, Ap.into p f = ib := ⟨_, rfl⟩
  have HIB := Lib.hid hib
  rw [hib] at HWI
  clear hib
  go_wp2_with fail
  refine HWI.out.mono ?_
  rintro e1 w1 ⟨rfl, hb1⟩
  have HE1 := Lib.hid (HE0.out.on hb1)
  clear hb1 HWI HE0
  cases ib with
  | true =>
    have HR := Lib.hid (Ap.move_into (v := v) HIB.out)
    obtain ⟨z0, z1, z2, z3, z4, z5, z6, z7⟩ := HE1.out.r.eight
    have zf := HE1.out.r.frozen
    have zl := HE1.out.r.lt
    go_wp2_with fail
    refine bodyPost_ret (results_row (l := [_, _, _, _, _, _, _, _]) rfl _ _ _ rfl (HE1.out.r.set8 _ _ _ _ _ _ _ _) Tryz.underlying28 rfl (by kernel_rfl)) rfl ?_
    exact bad9 (c := 9) HE1.out.below (by omega) HR.out (by omega)
  | false =>
    have HG := Lib.hid (ptrGetM_any _ neat_steps (w.on S) v f _ B d w1 HH.out.neat (by have := HH.out.size; omega) ((on_all _ _).trans (le_below HE1.out.below)) HH.out.hv (HH.out.hF.keep (le_below HE1.out.below)) HH.out.hf HH.out.hfm HH.out.fn.1 (by have := HH.out.fn.2; omega))
    obtain ⟨a0, a1, a2, a3, a4, a5, a6, a7⟩ := HE1.out.v.eight
    go_wp2_with fail
    refine HG.out.mono ?_
    rintro e2 w2 ⟨hb2, ⟨u, y, hu, rfl, hy⟩ | ⟨hn, y, rfl, hy⟩⟩
    · obtain ⟨j_1, j_2, j_3, j_4, j_5, j_6, j_7, j_8, j_9, j_a, j_b, j_c, rfl⟩ := In.cells hy
      have hb2a := hb2.alloc hb2.size (.cells #[.int .i64 j_1, .bool j_2, .bool j_3, .string ⟨j_4.toArray⟩, .int .i64 j_5, .string ⟨j_6.toArray⟩, .slice j_7 j_8 j_9, .slice j_a j_b j_c] 28)
      have HE2 := Lib.hid (HE1.out.on hb2a)
      have HK2 := Lib.hid (Blk.new w2 28 #[.int .i64 j_1, .bool j_2, .bool j_3, .string ⟨j_4.toArray⟩, .int .i64 j_5, .string ⟨j_6.toArray⟩, .slice j_7 j_8 j_9, .slice j_a j_b j_c])
      have HGT := Lib.hid hu
      have HY := Lib.hid hy
      have hg8 := Nat.le_trans HE1.out.size hb2.size
      clear hu hy hb2 hb2a HG HE1 a0 a1 a2 a3 a4 a5 a6 a7
      go_upto_region 4 with (fail)
      generalize w2.alloc (.cells #[.int .i64 j_1, .bool j_2, .bool j_3, .string ⟨j_4.toArray⟩, .int .i64 j_5, .string ⟨j_6.toArray⟩, .slice j_7 j_8 j_9, .slice j_a j_b j_c] 28) = w3 at *
      generalize w2.heap.size = g8 at *
      have HEN := Lib.hid (eqNames_any f p B A d e w3 (HH.out.hF.keep (le_below HE2.out.below)) (HH.out.hP.keep (le_below HE2.out.below)) HH.out.hf HH.out.hfm HH.out.hp HH.out.hpm)
      go_wp2_with fail
      refine HEN.out.mono ?_
      rintro e4 w4 ⟨rfl, hb4⟩
      have HE4 := Lib.hid (HE2.out.on hb4)
      have HK4 := Lib.hid (HK2.out.on hb4)
      clear hb4 HEN HE2 HK2
      obtain ⟨a0, a1, a2, a3, a4, a5, a6, a7⟩ := HE4.out.v.eight
      by_cases hfp : f = p
      · have hd : decide (f = p) = true := decide_eq_true hfp
        have HR := Lib.hid (Ap.move_stay HIB.out HGT.out hfp)
        clear hfp
        obtain ⟨z0, z1, z2, z3, z4, z5, z6, z7⟩ := HE4.out.r.eight
        have zf := HE4.out.r.frozen
        have zl := HE4.out.r.lt
        go_wp2_with fail
        refine bodyPost_ret (results_row (l := [_, _, _, _, _, _, _, _]) rfl _ _ _ rfl (HE4.out.r.set8 _ _ _ _ _ _ _ _) Tryz.underlying28 rfl (by kernel_rfl)) rfl ?_
        exact old9 HH.out.hS HE4.out.below (by omega) HR.out HH.out.hv
      · have hd : decide (f = p) = false := decide_eq_false hfp
        have HFP := Lib.hid hfp
        clear hfp
        have hs4 := HE4.out.size
        have HRM := Lib.hid (RemoveS_any S v Ps.mkN f _ (.agg zeroC) B d w4 ⟨fun b hb => by have := HH.out.hS b hb; omega, In.keep (on_keep7 (fun _ h => h) HE4.out.below) _ _ HH.out.hv, leaf_in _ 0 false Nm.Num.zero [], HH.out.hF.keep (le_below HE4.out.below), HH.out.hf, HH.out.hfm, by have := HH.out.fn.2; omega, HH.out.fn.1, HH.out.neat, by have := HH.out.size; omega⟩)
        obtain ⟨r, hr⟩ : ∃ r, Ed.edit 2 f v Ps.mkN = r := ⟨_, rfl⟩
        have HED := Lib.hid hr
        rw [hr] at HRM
        clear hr
        go_wp2_with fail
        refine HRM.out.mono ?_
        rintro e5 w5 ⟨y5, rfl, hz5, hb5⟩
        obtain ⟨m_1, m_2, m_3, m_4, m_5, m_6, m_7, m_8, m_9, m_a, m_b, m_c, rfl⟩ := In.cells hz5
        have HE5 := Lib.hid (HE4.out.on hb5)
        have HK5 := Lib.hid (HK4.out.on hb5)
        have HZ5 := Lib.hid hz5
        have HS5 := Lib.hid hb5.size
        clear hz5 hb5 HRM HE4 HK4 a0 a1 a2 a3 a4 a5 a6 a7
        obtain ⟨a0, a1, a2, a3, a4, a5, a6, a7⟩ := HE5.out.v.eight
        have af := HE5.out.v.frozen
        have al := HE5.out.v.lt
        cases r with
        | bad c =>
          have hc6 := Ed.edit_bad _ HED.out
          have hev : errV ((Ed.resC (.bad c) : Nat) : Int) = .iface 64 (.int .i64 c) := errV_pos (c := c) (by omega)
          rw [hev]
          clear hev
          have HR := Lib.hid (Ap.move_bad HIB.out HGT.out HFP.out HED.out)
          have HEN := HE5.out.setv (.int .i64 m_1) (.bool m_2) (.bool m_3) (.string ⟨m_4.toArray⟩) (.int .i64 m_5) (.string ⟨m_6.toArray⟩) (.slice m_7 m_8 m_9) (.slice m_a m_b m_c)
          obtain ⟨w6, hw6⟩ : ∃ W, W = set8 w5 w.heap.size (.int .i64 m_1) (.bool m_2) (.bool m_3) (.string ⟨m_4.toArray⟩) (.int .i64 m_5) (.string ⟨m_6.toArray⟩) (.slice m_7 m_8 m_9) (.slice m_a m_b m_c) := ⟨_, rfl⟩
          rw [← hw6] at HEN
          have HEN := Lib.hid HEN
          have HW6 := Lib.hid hw6
          clear hw6
          go_upto_region 9 with (fail)
          rw [show ((((((((w5.setCell ⟨w.heap.size, 0, none⟩ (.int .i64 m_1)).setCell ⟨w.heap.size, 1, none⟩ (.bool m_2)).setCell ⟨w.heap.size, 2, none⟩ (.bool m_3)).setCell ⟨w.heap.size, 3, none⟩ (.string ⟨m_4.toArray⟩)).setCell ⟨w.heap.size, 4, none⟩ (.int .i64 m_5)).setCell ⟨w.heap.size, 5, none⟩ (.string ⟨m_6.toArray⟩)).setCell ⟨w.heap.size, 6, none⟩ (.slice m_7 m_8 m_9)).setCell ⟨w.heap.size, 7, none⟩ (.slice m_a m_b m_c)) = w6 from HW6.out.symm]
          clear HW6 HE5 HK5 HZ5 a0 a1 a2 a3 a4 a5 a6 a7 af al
          obtain ⟨z0, z1, z2, z3, z4, z5, z6, z7⟩ := HEN.out.r.eight
          have zf := HEN.out.r.frozen
          have zl := HEN.out.r.lt
          go_wp2_with fail
          refine bodyPost_ret (results_row (l := [_, _, _, _, _, _, _, _]) rfl _ _ _ rfl (HEN.out.r.set8 _ _ _ _ _ _ _ _) Tryz.underlying28 rfl (by kernel_rfl)) rfl ?_
          exact bad9 HEN.out.below (by omega) HR.out (by omega)
        | ok r =>
          have hev : errV ((Ed.resC (.ok r) : Nat) : Int) = .nilIface := rfl
          rw [hev]
          clear hev
          have HR := Lib.hid (Ap.move_on HIB.out HGT.out HFP.out HED.out)
          have HEN := HE5.out.setv (.int .i64 m_1) (.bool m_2) (.bool m_3) (.string ⟨m_4.toArray⟩) (.int .i64 m_5) (.string ⟨m_6.toArray⟩) (.slice m_7 m_8 m_9) (.slice m_a m_b m_c)
          have hg5 := HK5.out.lt
          have HKN := HK5.out.set8o (h := w.heap.size) (by omega) (.int .i64 m_1) (.bool m_2) (.bool m_3) (.string ⟨m_4.toArray⟩) (.int .i64 m_5) (.string ⟨m_6.toArray⟩) (.slice m_7 m_8 m_9) (.slice m_a m_b m_c)
          have HZN : r.In ((set8 w5 w.heap.size (.int .i64 m_1) (.bool m_2) (.bool m_3) (.string ⟨m_4.toArray⟩) (.int .i64 m_5) (.string ⟨m_6.toArray⟩) (.slice m_7 m_8 m_9) (.slice m_a m_b m_c)).on fun b => (S b ∨ w4.heap.size ≤ b) ∧ b < w5.heap.size) (.agg #[.int .i64 m_1, .bool m_2, .bool m_3, .string ⟨m_4.toArray⟩, .int .i64 m_5, .string ⟨m_6.toArray⟩, .slice m_7 m_8 m_9, .slice m_a m_b m_c]) :=
            In.keep ((on_in7 w5 _).trans (on_keep (fun _ h _ => h) (fun b hb _ => heap_set8 _ _ _ (by rcases hb.1 with k | k; have := HH.out.hS b k; omega; omega) _ _ _ _ _ _ _ _))) _ _ HZ5.out
          have HSN : ∀ b, S b → b < w.heap.size ∧ b < w5.heap.size := fun b hb => by have := HH.out.hS b hb; omega
          have HYN : u.In ((set8 w5 w.heap.size (.int .i64 m_1) (.bool m_2) (.bool m_3) (.string ⟨m_4.toArray⟩) (.int .i64 m_5) (.string ⟨m_6.toArray⟩) (.slice m_7 m_8 m_9) (.slice m_a m_b m_c)).on fun b => (S b ∨ w4.heap.size ≤ b) ∧ b < w5.heap.size) (.agg #[.int .i64 j_1, .bool j_2, .bool j_3, .string ⟨j_4.toArray⟩, .int .i64 j_5, .string ⟨j_6.toArray⟩, .slice j_7 j_8 j_9, .slice j_a j_b j_c]) :=
            In.keep (on_keep (fun b hb _ => ⟨.inl hb, (HSN b hb).2⟩) (fun b hb _ => (heap_set8 _ _ _ (by have := (HSN b hb).1; omega) _ _ _ _ _ _ _ _).trans (HE5.out.below.block b (HSN b hb).1))) _ _ HY.out
          have hsz6 := size_set8 w5 w.heap.size (.int .i64 m_1) (.bool m_2) (.bool m_3) (.string ⟨m_4.toArray⟩) (.int .i64 m_5) (.string ⟨m_6.toArray⟩) (.slice m_7 m_8 m_9) (.slice m_a m_b m_c)
          obtain ⟨w6, hw6⟩ : ∃ W, W = set8 w5 w.heap.size (.int .i64 m_1) (.bool m_2) (.bool m_3) (.string ⟨m_4.toArray⟩) (.int .i64 m_5) (.string ⟨m_6.toArray⟩) (.slice m_7 m_8 m_9) (.slice m_a m_b m_c) := ⟨_, rfl⟩
          rw [← hw6] at HEN HKN HZN HYN hsz6
          have HEN := Lib.hid HEN
          have HKN := Lib.hid HKN
          have HZN := Lib.hid HZN
          have HYN := Lib.hid HYN
          have HW6 := Lib.hid hw6
          clear hw6 HSN
          go_upto_region 9 with (fail)
          rw [show ((((((((w5.setCell ⟨w.heap.size, 0, none⟩ (.int .i64 m_1)).setCell ⟨w.heap.size, 1, none⟩ (.bool m_2)).setCell ⟨w.heap.size, 2, none⟩ (.bool m_3)).setCell ⟨w.heap.size, 3, none⟩ (.string ⟨m_4.toArray⟩)).setCell ⟨w.heap.size, 4, none⟩ (.int .i64 m_5)).setCell ⟨w.heap.size, 5, none⟩ (.string ⟨m_6.toArray⟩)).setCell ⟨w.heap.size, 6, none⟩ (.slice m_7 m_8 m_9)).setCell ⟨w.heap.size, 7, none⟩ (.slice m_a m_b m_c)) = w6 from HW6.out.symm]
          clear HW6 HE5 HK5 HZ5 a0 a1 a2 a3 a4 a5 a6 a7 af al
          have hnt := Ap.neat_two HH.out.neat HED.out
          have HAD := Lib.hid (AddS_any (fun b => (S b ∨ w4.heap.size ≤ b) ∧ b < w5.heap.size) r u p _ _ A e w6 ⟨fun b hb => by have := hb.2; omega, HZN.out, HYN.out, HH.out.hP.keep (le_below HEN.out.below), HH.out.hp, HH.out.hpm, by have := HH.out.pn.2; omega, HH.out.pn.1, hnt.1, by have := hnt.2; have := HH.out.size; omega⟩)
          obtain ⟨a0, a1, a2, a3, a4, a5, a6, a7⟩ := HEN.out.v.eight
          obtain ⟨b0, b1, b2, b3, b4, b5, b6, b7⟩ := HKN.out.eight
          clear hnt
          go_wp2_with fail
          refine HAD.out.mono ?_
          rintro e7 w7 ⟨y7, rfl, hz7, hb7⟩
          obtain ⟨n_1, n_2, n_3, n_4, n_5, n_6, n_7, n_8, n_9, n_a, n_b, n_c, rfl⟩ := In.cells hz7
          have HE7 := Lib.hid (HEN.out.on hb7)
          have HZ7 := Lib.hid (In.keep (on_sub (S' := fun b => S b ∨ w4.heap.size ≤ b) fun b hb => by rcases hb with hb | hb; exact hb.1; exact .inr (by have := HS5.out; omega)) _ _ hz7)
          clear hz7 hb7 HAD HEN HKN a0 a1 a2 a3 a4 a5 a6 a7 b0 b1 b2 b3 b4 b5 b6 b7
          obtain ⟨z0, z1, z2, z3, z4, z5, z6, z7⟩ := HE7.out.r.eight
          have zf := HE7.out.r.frozen
          have zl := HE7.out.r.lt
          go_wp2_with fail
          refine bodyPost_ret (results_row (l := [_, _, _, _, _, _, _, _]) rfl _ _ _ rfl (HE7.out.r.set8 _ _ _ _ _ _ _ _) Tryz.underlying28 rfl (by kernel_rfl)) rfl ?_
          rw [HR.out]
          exact edit9 HH.out.hS HE7.out.below (by omega) (by omega) HZ7.out
    · obtain ⟨j_1, j_2, j_3, j_4, j_5, j_6, j_7, j_8, j_9, j_a, j_b, j_c, rfl⟩ := In.cells hy
      have hb2a := hb2.alloc hb2.size (.cells #[.int .i64 j_1, .bool j_2, .bool j_3, .string ⟨j_4.toArray⟩, .int .i64 j_5, .string ⟨j_6.toArray⟩, .slice j_7 j_8 j_9, .slice j_a j_b j_c] 28)
      have HE2 := Lib.hid (HE1.out.on hb2a)
      have HR := Lib.hid (Ap.move_none HIB.out hn)
      clear hn hy hb2 hb2a HG HE1 a0 a1 a2 a3 a4 a5 a6 a7
      go_upto_region 4 with (fail)
      generalize w2.alloc (.cells #[.int .i64 j_1, .bool j_2, .bool j_3, .string ⟨j_4.toArray⟩, .int .i64 j_5, .string ⟨j_6.toArray⟩, .slice j_7 j_8 j_9, .slice j_a j_b j_c] 28) = w3 at *
      generalize w2.heap.size = g8 at *
      obtain ⟨z0, z1, z2, z3, z4, z5, z6, z7⟩ := HE2.out.r.eight
      have zf := HE2.out.r.frozen
      have zl := HE2.out.r.lt
      go_wp2_with fail
      refine bodyPost_ret (results_row (l := [_, _, _, _, _, _, _, _]) rfl _ _ _ rfl (HE2.out.r.set8 _ _ _ _ _ _ _ _) Tryz.underlying28 rfl (by kernel_rfl)) rfl ?_
      exact bad9 (c := 6) HE2.out.below (by omega) HR.out (by omega)

set_option linter.unusedVariables false in
set_option linter.unusedSimpArgs false in
set_option maxRecDepth 100000 in
set_option maxHeartbeats 8000000 in
theorem done_any (S : Nat → Prop) (v : Vl) (o : Opn) (xv xo : Value) (w : World) (hS : ∀ b, S b → b < w.heap.size) (hv : Ap.ValFit v) (ho : Ap.OpFit o) (hot : Ap.tame o.v = true) (hx : v.In (w.on S) xv) (hxo : o.In (w.on S) xo) :
    Calls Tryz.prog 18 #[xv, xo] w (EditF S (Ap.doOp v o) w) := by
  obtain ⟨q, p, f, u⟩ := o
  obtain ⟨⟨hq1, hq6⟩, hun, hus, hpt, hft⟩ := ho
  simp only at hq1 hq6 hun hus hpt hft hot
  obtain ⟨k_1, k_2, k_3, k_4, k_5, k_6, k_7, k_8, k_9, k_a, k_b, k_c, rfl⟩ := In.cells hx
  obtain ⟨P1, pe, F1, fe, x_1, x_2, x_3, x_4, x_5, x_6, x_7, x_8, x_9, x_a, x_b, x_c, rfl, hP, hpe, hpm, hF, hfe, hfm, hU⟩ := OIn.form4 hxo
  have HHC := Lib.hid (fun (W : World) (hb : Below w.heap.size w W) => (show HandedC S v p f (.agg #[.int .i64 k_1, .bool k_2, .bool k_3, .string ⟨k_4.toArray⟩, .int .i64 k_5, .string ⟨k_6.toArray⟩, .slice k_7 k_8 k_9, .slice k_a k_b k_c]) P1 pe F1 fe W from
    ⟨fun b h => Nat.lt_of_lt_of_le (hS b h) hb.size, In.keep (on_keep7 (fun _ h => h) hb) _ _ hx, hP.keep ((on_all _ _).trans (le_below hb)), hpe, hpm, hF.keep ((on_all _ _).trans (le_below hb)), hfe, hfm, Ap.name_small hpt, Ap.name_small hft, hv.neat, hv.size⟩))
  have HHS := Lib.hid (fun (W : World) (hb : Below w.heap.size w W) => (show HandedS S v u p (.agg #[.int .i64 k_1, .bool k_2, .bool k_3, .string ⟨k_4.toArray⟩, .int .i64 k_5, .string ⟨k_6.toArray⟩, .slice k_7 k_8 k_9, .slice k_a k_b k_c]) (.agg #[.int .i64 x_1, .bool x_2, .bool x_3, .string ⟨x_4.toArray⟩, .int .i64 x_5, .string ⟨x_6.toArray⟩, .slice x_7 x_8 x_9, .slice x_a x_b x_c]) P1 pe W from
    ⟨fun b h => Nat.lt_of_lt_of_le (hS b h) hb.size, In.keep (on_keep7 (fun _ h => h) hb) _ _ hx, In.keep (on_keep7 (fun _ h => h) hb) _ _ hU, hP.keep ((on_all _ _).trans (le_below hb)), hpe, hpm, by have := (Ap.name_small hpt).2; omega, (Ap.name_small hpt).1, hv.neat, by have := hv.size; omega⟩))
  have HTM := Lib.hid hv.tame
  have HUT := Lib.hid (And.intro hun hot)
  have HS := Lib.hid hS
  have HE0 := Lib.hid (show Do9 w S #[.int .i64 k_1, .bool k_2, .bool k_3, .string ⟨k_4.toArray⟩, .int .i64 k_5, .string ⟨k_6.toArray⟩, .slice k_7 k_8 k_9, .slice k_a k_b k_c] #[.int .i64 q, .slice P1 p.length pe, .slice F1 f.length fe, .int .i64 x_1, .bool x_2, .bool x_3, .string ⟨x_4.toArray⟩, .int .i64 x_5, .string ⟨x_6.toArray⟩, .slice x_7 x_8 x_9, .slice x_a x_b x_c] (((w.alloc (.cells #[.int .i64 k_1, .bool k_2, .bool k_3, .string ⟨k_4.toArray⟩, .int .i64 k_5, .string ⟨k_6.toArray⟩, .slice k_7 k_8 k_9, .slice k_a k_b k_c] 28)).alloc (.cells #[.int .i64 q, .slice P1 p.length pe, .slice F1 f.length fe, .int .i64 x_1, .bool x_2, .bool x_3, .string ⟨x_4.toArray⟩, .int .i64 x_5, .string ⟨x_6.toArray⟩, .slice x_7 x_8 x_9, .slice x_a x_b x_c] 52)).alloc (.cells zeroC 28)) from
    ⟨((Blk.new w 28 #[.int .i64 k_1, .bool k_2, .bool k_3, .string ⟨k_4.toArray⟩, .int .i64 k_5, .string ⟨k_6.toArray⟩, .slice k_7 k_8 k_9, .slice k_a k_b k_c]).alloc _).alloc _, (Blk.new2 w (.cells #[.int .i64 k_1, .bool k_2, .bool k_3, .string ⟨k_4.toArray⟩, .int .i64 k_5, .string ⟨k_6.toArray⟩, .slice k_7 k_8 k_9, .slice k_a k_b k_c] 28) 52 _).alloc _, Blk.new3 _ _ _ _ _, below_three _ _ _ _, hS⟩)
  unfold maxLen at hpm hfm
  clear hx hxo hP hF hU hpt hft hun hot hv hus
  go_enter Tryz.func18, Tryz.ntmps18
  go_upto_region 1 with (fail)
  generalize ((w.alloc (.cells #[.int .i64 k_1, .bool k_2, .bool k_3, .string ⟨k_4.toArray⟩, .int .i64 k_5, .string ⟨k_6.toArray⟩, .slice k_7 k_8 k_9, .slice k_a k_b k_c] 28)).alloc (.cells #[.int .i64 q, .slice P1 p.length pe, .slice F1 f.length fe, .int .i64 x_1, .bool x_2, .bool x_3, .string ⟨x_4.toArray⟩, .int .i64 x_5, .string ⟨x_6.toArray⟩, .slice x_7 x_8 x_9, .slice x_a x_b x_c] 52)).alloc (.cells zeroC 28) = w0 at *
  obtain ⟨a0, a1, a2, a3, a4, a5, a6, a7⟩ := HE0.out.v.eight
  obtain ⟨o0, o1, o2, o3, o4, o5, o6, o7, o8, o9, o10⟩ := HE0.out.o.eleven
  have hs0 := HE0.out.size
  rcases (show q = 1 ∨ q = 2 ∨ q = 3 ∨ q = 4 ∨ q = 5 ∨ q = 6 by omega) with hq | hq | hq | hq | hq | hq
  · have hb1 : ((q : Int) == 1) = true := by rw [hq]; rfl
    have HD := Lib.hid (show Ap.doOp v ⟨q, p, f, u⟩ = Ed.edit 1 p v u from (Ap.doOp_edit (by omega)).trans (by rw [hq]))
    have HC := Lib.hid (AddS_any _ _ _ _ _ _ _ _ _ (HHS.out w0 HE0.out.below))
    clear hq hq1 hq6 HHS HHC HTM HUT
    go_wp2_with fail
    refine HC.out.mono ?_
    rintro e1 w1 ⟨y1, rfl, hz1, hb1⟩
    obtain ⟨j_1, j_2, j_3, j_4, j_5, j_6, j_7, j_8, j_9, j_a, j_b, j_c, rfl⟩ := In.cells hz1
    have HE1 := Lib.hid (HE0.out.on hb1)
    have HZ1 := Lib.hid hz1
    clear hz1 hb1 HC HE0 a0 a1 a2 a3 a4 a5 a6 a7 o0 o1 o2 o3 o4 o5 o6 o7 o8 o9 o10
    obtain ⟨z0, z1, z2, z3, z4, z5, z6, z7⟩ := HE1.out.r.eight
    have zf := HE1.out.r.frozen
    have zl := HE1.out.r.lt
    go_wp2_with fail
    refine bodyPost_ret (results_row (l := [_, _, _, _, _, _, _, _]) rfl _ _ _ rfl (HE1.out.r.set8 _ _ _ _ _ _ _ _) Tryz.underlying28 rfl (by kernel_rfl)) rfl ?_
    rw [HD.out]
    exact edit9 HS.out HE1.out.below (by omega) (by omega) HZ1.out
  · have hb1 : ((q : Int) == 1) = false := by rw [beq_eq_false_iff_ne]; omega
    have hb2 : ((q : Int) == 2) = true := by rw [hq]; rfl
    have HD := Lib.hid (show Ap.doOp v ⟨q, p, f, u⟩ = Ed.edit 2 p v u from (Ap.doOp_edit (by omega)).trans (by rw [hq]))
    have HC := Lib.hid (RemoveS_any _ _ _ _ _ _ _ _ _ (HHS.out w0 HE0.out.below))
    clear hq hq1 hq6 HHS HHC HTM HUT
    go_wp2_with fail
    refine HC.out.mono ?_
    rintro e1 w1 ⟨y1, rfl, hz1, hb1⟩
    obtain ⟨j_1, j_2, j_3, j_4, j_5, j_6, j_7, j_8, j_9, j_a, j_b, j_c, rfl⟩ := In.cells hz1
    have HE1 := Lib.hid (HE0.out.on hb1)
    have HZ1 := Lib.hid hz1
    clear hz1 hb1 HC HE0 a0 a1 a2 a3 a4 a5 a6 a7 o0 o1 o2 o3 o4 o5 o6 o7 o8 o9 o10
    obtain ⟨z0, z1, z2, z3, z4, z5, z6, z7⟩ := HE1.out.r.eight
    have zf := HE1.out.r.frozen
    have zl := HE1.out.r.lt
    go_wp2_with fail
    refine bodyPost_ret (results_row (l := [_, _, _, _, _, _, _, _]) rfl _ _ _ rfl (HE1.out.r.set8 _ _ _ _ _ _ _ _) Tryz.underlying28 rfl (by kernel_rfl)) rfl ?_
    rw [HD.out]
    exact edit9 HS.out HE1.out.below (by omega) (by omega) HZ1.out
  · have hb1 : ((q : Int) == 1) = false := by rw [beq_eq_false_iff_ne]; omega
    have hb2 : ((q : Int) == 2) = false := by rw [beq_eq_false_iff_ne]; omega
    have hb3 : ((q : Int) == 3) = true := by rw [hq]; rfl
    have HD := Lib.hid (show Ap.doOp v ⟨q, p, f, u⟩ = Ed.edit 3 p v u from (Ap.doOp_edit (by omega)).trans (by rw [hq]))
    have HC := Lib.hid (ReplaceS_any _ _ _ _ _ _ _ _ _ (HHS.out w0 HE0.out.below))
    clear hq hq1 hq6 HHS HHC HTM HUT
    go_wp2_with fail
    refine HC.out.mono ?_
    rintro e1 w1 ⟨y1, rfl, hz1, hb1⟩
    obtain ⟨j_1, j_2, j_3, j_4, j_5, j_6, j_7, j_8, j_9, j_a, j_b, j_c, rfl⟩ := In.cells hz1
    have HE1 := Lib.hid (HE0.out.on hb1)
    have HZ1 := Lib.hid hz1
    clear hz1 hb1 HC HE0 a0 a1 a2 a3 a4 a5 a6 a7 o0 o1 o2 o3 o4 o5 o6 o7 o8 o9 o10
    obtain ⟨z0, z1, z2, z3, z4, z5, z6, z7⟩ := HE1.out.r.eight
    have zf := HE1.out.r.frozen
    have zl := HE1.out.r.lt
    go_wp2_with fail
    refine bodyPost_ret (results_row (l := [_, _, _, _, _, _, _, _]) rfl _ _ _ rfl (HE1.out.r.set8 _ _ _ _ _ _ _ _) Tryz.underlying28 rfl (by kernel_rfl)) rfl ?_
    rw [HD.out]
    exact edit9 HS.out HE1.out.below (by omega) (by omega) HZ1.out
  · have hb1 : ((q : Int) == 1) = false := by rw [beq_eq_false_iff_ne]; omega
    have hb2 : ((q : Int) == 2) = false := by rw [beq_eq_false_iff_ne]; omega
    have hb3 : ((q : Int) == 3) = false := by rw [beq_eq_false_iff_ne]; omega
    have hb4 : ((q : Int) == 4) = true := by rw [hq]; rfl
    have HD := Lib.hid (Ap.doOp_move9 (v := v) (u := u) (p := p) (f := f) hq)
    have HC := Lib.hid (moved_any _ _ _ _ _ _ _ _ _ _ (HHC.out w0 HE0.out.below))
    clear hq hq1 hq6 HHS HHC HTM HUT
    go_wp2_with fail
    refine HC.out.mono ?_
    rintro e1 w1 ⟨y1, rfl, hz1, hb1⟩
    obtain ⟨j_1, j_2, j_3, j_4, j_5, j_6, j_7, j_8, j_9, j_a, j_b, j_c, rfl⟩ := In.cells hz1
    have HE1 := Lib.hid (HE0.out.on hb1)
    have HZ1 := Lib.hid hz1
    clear hz1 hb1 HC HE0 a0 a1 a2 a3 a4 a5 a6 a7 o0 o1 o2 o3 o4 o5 o6 o7 o8 o9 o10
    obtain ⟨z0, z1, z2, z3, z4, z5, z6, z7⟩ := HE1.out.r.eight
    have zf := HE1.out.r.frozen
    have zl := HE1.out.r.lt
    go_wp2_with fail
    refine bodyPost_ret (results_row (l := [_, _, _, _, _, _, _, _]) rfl _ _ _ rfl (HE1.out.r.set8 _ _ _ _ _ _ _ _) Tryz.underlying28 rfl (by kernel_rfl)) rfl ?_
    rw [HD.out]
    exact edit9 HS.out HE1.out.below (by omega) (by omega) HZ1.out
  · have hb1 : ((q : Int) == 1) = false := by rw [beq_eq_false_iff_ne]; omega
    have hb2 : ((q : Int) == 2) = false := by rw [beq_eq_false_iff_ne]; omega
    have hb3 : ((q : Int) == 3) = false := by rw [beq_eq_false_iff_ne]; omega
    have hb4 : ((q : Int) == 4) = false := by rw [beq_eq_false_iff_ne]; omega
    have hb5 : ((q : Int) == 5) = true := by rw [hq]; rfl
    have HD := Lib.hid (Ap.doOp_copy9 (v := v) (u := u) (p := p) (f := f) hq)
    have HC := Lib.hid (copied_any _ _ _ _ _ _ _ _ _ _ (HHC.out w0 HE0.out.below))
    clear hq hq1 hq6 HHS HHC HTM HUT
    go_wp2_with fail
    refine HC.out.mono ?_
    rintro e1 w1 ⟨y1, rfl, hz1, hb1⟩
    obtain ⟨j_1, j_2, j_3, j_4, j_5, j_6, j_7, j_8, j_9, j_a, j_b, j_c, rfl⟩ := In.cells hz1
    have HE1 := Lib.hid (HE0.out.on hb1)
    have HZ1 := Lib.hid hz1
    clear hz1 hb1 HC HE0 a0 a1 a2 a3 a4 a5 a6 a7 o0 o1 o2 o3 o4 o5 o6 o7 o8 o9 o10
    obtain ⟨z0, z1, z2, z3, z4, z5, z6, z7⟩ := HE1.out.r.eight
    have zf := HE1.out.r.frozen
    have zl := HE1.out.r.lt
    go_wp2_with fail
    refine bodyPost_ret (results_row (l := [_, _, _, _, _, _, _, _]) rfl _ _ _ rfl (HE1.out.r.set8 _ _ _ _ _ _ _ _) Tryz.underlying28 rfl (by kernel_rfl)) rfl ?_
    rw [HD.out]
    exact edit9 HS.out HE1.out.below (by omega) (by omega) HZ1.out
  · have hb1 : ((q : Int) == 1) = false := by rw [beq_eq_false_iff_ne]; omega
    have hb2 : ((q : Int) == 2) = false := by rw [beq_eq_false_iff_ne]; omega
    have hb3 : ((q : Int) == 3) = false := by rw [beq_eq_false_iff_ne]; omega
    have hb4 : ((q : Int) == 4) = false := by rw [beq_eq_false_iff_ne]; omega
    have hb5 : ((q : Int) == 5) = false := by rw [beq_eq_false_iff_ne]; omega
    have hb6 : ((q : Int) == 6) = true := by rw [hq]; rfl
    have HD := Lib.hid (Ap.doOp_test9 (v := v) (u := u) (p := p) (f := f) hq)
    have HC := Lib.hid (tested_any _ _ _ _ _ _ _ _ _ (HHS.out w0 HE0.out.below) HTM.out HUT.out)
    clear hq hq1 hq6 HHS HHC HTM HUT
    go_wp2_with fail
    refine HC.out.mono ?_
    rintro e1 w1 ⟨y1, rfl, hz1, hb1⟩
    obtain ⟨j_1, j_2, j_3, j_4, j_5, j_6, j_7, j_8, j_9, j_a, j_b, j_c, rfl⟩ := In.cells hz1
    have HE1 := Lib.hid (HE0.out.on hb1)
    have HZ1 := Lib.hid hz1
    clear hz1 hb1 HC HE0 a0 a1 a2 a3 a4 a5 a6 a7 o0 o1 o2 o3 o4 o5 o6 o7 o8 o9 o10
    obtain ⟨z0, z1, z2, z3, z4, z5, z6, z7⟩ := HE1.out.r.eight
    have zf := HE1.out.r.frozen
    have zl := HE1.out.r.lt
    go_wp2_with fail
    refine bodyPost_ret (results_row (l := [_, _, _, _, _, _, _, _]) rfl _ _ _ rfl (HE1.out.r.set8 _ _ _ _ _ _ _ _) Tryz.underlying28 rfl (by kernel_rfl)) rfl ?_
    rw [HD.out]
    exact edit9 HS.out HE1.out.below (by omega) (by omega) HZ1.out

end Go.Proofs.YtjjenpmahmbafaaGreatDoor


