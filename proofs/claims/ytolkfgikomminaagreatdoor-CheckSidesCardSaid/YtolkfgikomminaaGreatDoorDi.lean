/- Di: Di Df, in one text. -/
import Derived.Test.YtolkfgikomminaaGreatDoorDh
import Derived.Test.YtolkfgikomminaaGreatDoorDc
import Derived.Test.YtolkfgikomminaaGreatDoorRg
import Derived.BigQuiet
import Derived.Laws.StructEq
namespace Go.Proofs.YtolkfgikomminaaGreatDoor
open Go.RowKit Js Pt

theorem vl_pos (v : Vl) : 1 ≤ v.size := by obtain ⟨k, b, n, s, l, m⟩ := v; simp only [Vl.size]; omega
theorem node_any : ∀ f, NodeC f
 | 0 => fun v hv => absurd (vl_pos v) (by omega)
 | f + 1 => node_step f (node_any f)
theorem Mk.start (w : World) : Mk w.heap.size (fun _ => False) none 0 [] 0 [] (w.alloc (.cells #[.slice none 0 0, .int .i64 0, .string ⟨#[]⟩] 74)) where
 blk := Blk.new w _ _
 row := RowX.nil _ _
 few := Nat.zero_le _
 apart := fun b e => by obtain ⟨ad, e, _⟩ := e; cases e
 ng := fun k => k
 yl := fun b k => k.elim
theorem lx_none {gm b : Nat} (h : b < gm) : ¬ LX gm none b := fun k => by
 rcases k with k | k
 ·omega
 ·obtain ⟨ad, e, _⟩ := k; cases e
def CompR (r : Cm.Res (List Cm.Node)) (w : World) (e : Ending) (w' : World) : Prop :=
 Below w.heap.size w w' ∧ ((∃ (a : List Cm.Node) (A : Option Addr) (cp : Nat), r = .ok a ∧ e = .returned (.tuple #[.slice A a.length cp, .int .i64 0, .string ⟨#[]⟩]) ∧ SlN w'.cell? A a ∧ a.length ≤ cp ∧ cp ≤ maxLen) ∨
  (∃ (c : Nat) (p : Cm.Names), r = .bad c p ∧ ¬ c = 0 ∧ c ≤ 14 ∧ e = .returned (.tuple #[.slice none 0 0, .int .i64 c, .string ⟨(text p).toArray⟩])))

set_option linter.unusedVariables false in
set_option linter.unusedSimpArgs false in
set_option maxRecDepth 100000 in
set_option maxHeartbeats 2000000 in
theorem refCompile_any (v : Vl) (x : Value) (w : World) (hx : v.In w.cell? x) (hsl : v.slim 1000000) (hsz : v.size ≤ 1000000) : Calls Tryz.prog 17 #[x] w (CompR (Cm.compile v) w) := by
 have hx0 := hx
 obtain ⟨k_1, k_2, k_3, k_4, k_5, k_6, k_7, k_8, k_9, k_a, k_b, k_c, rfl⟩ := In.cells hx
 have hb1 := (Below.refl w.heap.size w).alloc (Nat.le_refl _) (.cells #[.int .i64 k_1, .bool k_2, .bool k_3, .string ⟨k_4.toArray⟩, .int .i64 k_5, .string ⟨k_6.toArray⟩, .slice k_7 k_8 k_9, .slice k_a k_b k_c] 31)
 have HB := Lib.hid hb1
 have HK := Lib.hid (Blk.new w 31 #[.int .i64 k_1, .bool k_2, .bool k_3, .string ⟨k_4.toArray⟩, .int .i64 k_5, .string ⟨k_6.toArray⟩, .slice k_7 k_8 k_9, .slice k_a k_b k_c])
 have HSC := Lib.hid (refSchema_any v _ (w.alloc (.cells #[.int .i64 k_1, .bool k_2, .bool k_3, .string ⟨k_4.toArray⟩, .int .i64 k_5, .string ⟨k_6.toArray⟩, .slice k_7 k_8 k_9, .slice k_a k_b k_c] 31)) (In.keep (le_below hb1) _ _ hx0))
 have HX := Lib.hid hx0
 have HSL := Lib.hid hsl
 obtain ⟨sb, hsb⟩ : ∃ sb, Sh.isSch v = sb := ⟨_, rfl⟩
 rw [hsb] at HSC
 have HC := Lib.hid (show Cm.compile v = if sb = true then Cm.node v.size 0 [] v else .bad 14 [] by unfold Cm.compile; rw [hsb])
 clear hx hx0 hb1 hsb hsl
 go_enter Tryz.func17, Tryz.ntmps17
 go_upto_region 1 with (fail)
 generalize w.alloc (.cells #[.int .i64 k_1, .bool k_2, .bool k_3, .string ⟨k_4.toArray⟩, .int .i64 k_5, .string ⟨k_6.toArray⟩, .slice k_7 k_8 k_9, .slice k_a k_b k_c] 31) = w0 at *
 obtain ⟨a0, a1, a2, a3, a4, a5, a6, a7⟩ := HK.out.eight
 have hkl := HK.out.lt
 go_wp2_with fail
 refine HSC.out.mono ?_
 rintro e1 w1 ⟨rfl, hb2⟩
 have HB1 := Lib.hid (HB.out.trans (hb2.mono HB.out.size))
 have HK1 := Lib.hid (HK.out.on hb2)
 clear hb2 HSC HB HK a0 a1 a2 a3 a4 a5 a6 a7 hkl
 cases sb with
 | false =>
  go_wp2_with fail
  go_ret3
  exact ⟨HB1.out, .inr ⟨14, [], by rw [HC.out]; rfl, by decide, by decide, rfl⟩⟩
 | true =>
  have hb3 := (Below.refl w1.heap.size w1).alloc (Nat.le_refl _) (.cells #[.slice none 0 0, .int .i64 0, .string ⟨#[]⟩] 74)
  have HB2 := Lib.hid (HB1.out.trans (hb3.mono HB1.out.size))
  have HK2 := Lib.hid (HK1.out.on hb3)
  have HM := Lib.hid (Mk.start w1)
  have HGM := Lib.hid (show w.heap.size ≤ w1.heap.size from HB1.out.size)
  clear hb3 HK1 HB1
  go_upto_region 5 with (fail)
  generalize w1.alloc (.cells #[.slice none 0 0, .int .i64 0, .string ⟨#[]⟩] 74) = w2 at *
  generalize w1.heap.size = gm at *
  have HN := Lib.hid (node_any v.size v (Nat.le_refl _) HSL.out hsz gm (fun _ => False) none 0 [] [] [] w2 _ (fun b => b < w.heap.size) HM.out (fun b hb => ⟨Nat.lt_of_lt_of_le hb HB2.out.size, lx_none (Nat.lt_of_lt_of_le hb HGM.out), fun k => k⟩) (In.keep (fun p u hp => on_some.2 ⟨World.block_lt_of_cell? _ _ hp, le_below HB2.out _ _ hp⟩) _ _ HX.out) (by show 0 + _ ≤ _; omega))
  rw [show (text []).toArray = #[] from rfl] at HN
  obtain ⟨a0, a1, a2, a3, a4, a5, a6, a7⟩ := HK2.out.eight
  have hkl := HK2.out.lt
  go_wp2_with fail
  refine HN.out.mono ?_
  rintro e3 w3 ⟨rfl, A', cp', acc', bad', p', hL, hR⟩
  have HL := Lib.hid hL
  have HR := Lib.hid hR
  have HB3 := Lib.hid (HB2.out.trans (hL.but.below (B := w.heap.size) HB2.out.size (fun b hb => lx_none (Nat.lt_of_lt_of_le hb HGM.out))))
  clear hL hR a0 a1 a2 a3 a4 a5 a6 a7 hkl
  obtain ⟨t0, t1, t2, t3, t4, t5⟩ := HL.out.maker.blk.three
  have hml := HL.out.maker.lt
  by_cases h0 : bad' = 0
  ·subst h0
   go_wp2_with fail
   go_ret3
   refine ⟨HB3.out, .inl ⟨acc', A', cp', ?_, rfl, HL.out.maker.row.slN, HL.out.maker.row.le.1, HL.out.maker.row.le.2.1⟩⟩
   rw [HC.out, if_pos (by simp)]
   rcases HR.out with ⟨a, h1, h2, _, _⟩ | ⟨c, q, _, h2, _, h4, _, _⟩
   ·rw [List.nil_append] at h2; rw [h2]; exact h1
   ·exact absurd h4.symm h2
  ·have hbb : ((bad' : Int) != 0) = true := by simpa using h0
   go_upto_region 7 with (fail)
   go_quiet (fail)
   go_wp2_with fail
   go_ret3
   rcases HR.out with ⟨a, _, _, h3, _⟩ | ⟨c, q, h1, h2, h3, h4, h5, _⟩
   ·exact absurd h3 h0
   ·subst h4 h5
    exact ⟨below_drewN HB3.out _, .inr ⟨bad', q, by rw [HC.out, if_pos (by simp)]; exact h1, h2, h3, rfl⟩⟩

end Go.Proofs.YtolkfgikomminaaGreatDoor

namespace Go.Proofs.YtolkfgikomminaaGreatDoor
open Go.RowKit Js Pt
theorem ItKey.cells {c : Cl} {k : Cm.Key} {cs : List Value} (h : ItKey c k cs) : ∃ (j_1 : Int) (j_2 j_3 : Bool) (j_4 : List UInt8) (j_5 : Int) (j_6 : List UInt8) (j_7 : Option Addr) (j_8 j_9 : Nat) (j_a : Option Addr) (j_b j_c : Nat) (A : Option Addr) (cp : Nat),
  cs = [.string ⟨k.name.toArray⟩, .int .i64 j_1, .bool j_2, .bool j_3, .string ⟨j_4.toArray⟩, .int .i64 j_5, .string ⟨j_6.toArray⟩, .slice j_7 j_8 j_9, .slice j_a j_b j_c, .slice A k.kids.length cp] ∧ k.v.In c (.agg #[.int .i64 j_1, .bool j_2, .bool j_3, .string ⟨j_4.toArray⟩, .int .i64 j_5, .string ⟨j_6.toArray⟩, .slice j_7 j_8 j_9, .slice j_a j_b j_c]) ∧ SlKid c A k.kids ∧ k.kids.length ≤ cp ∧ cp ≤ maxLen := by
 obtain ⟨r, A, cp, rfl, h2, h3, h4, h5⟩ := h
 obtain ⟨j_1, j_2, j_3, j_4, j_5, j_6, j_7, j_8, j_9, j_a, j_b, j_c, hr⟩ := In.cells h2
 injection hr with hr
 subst hr
 exact ⟨j_1, j_2, j_3, j_4, j_5, j_6, j_7, j_8, j_9, j_a, j_b, j_c, A, cp, rfl, h2, h3, h4, h5⟩

end Go.Proofs.YtolkfgikomminaaGreatDoor


