/- The walks of layer 3: ValueSame. (By gen_vsame.py.) -/
import Derived.Test.YtfconmjgedaifaaDoorMt
import Derived.Deep.Cut
import Derived.Deep.CutRange
import Derived.IntWalk
namespace Go.Proofs.YtfconmjgedaifaaDoor
open Go.RowKit Js

/-- Three values in their blocks; what is older is as it was. -/
def VThree (W : World) (g h i : Nat) (a0 a1 a2 a3 a4 a5 a6 a7 b0 b1 b2 b3 b4 b5 b6 b7 c0 c1 c2 c3 c4 c5 c6 c7 : Value) (w' : World) : Prop :=
  At8 w' g a0 a1 a2 a3 a4 a5 a6 a7 ∧ At8 w' h b0 b1 b2 b3 b4 b5 b6 b7 ∧ At8 w' i c0 c1 c2 c3 c4 c5 c6 c7 ∧ Below W.heap.size W w'
theorem VThree.on {W : World} {g h i : Nat} {a0 a1 a2 a3 a4 a5 a6 a7 b0 b1 b2 b3 b4 b5 b6 b7 c0 c1 c2 c3 c4 c5 c6 c7 : Value} {w' w'' : World} (H : VThree W g h i a0 a1 a2 a3 a4 a5 a6 a7 b0 b1 b2 b3 b4 b5 b6 b7 c0 c1 c2 c3 c4 c5 c6 c7 w') (hb : Below w'.heap.size w' w'') : VThree W g h i a0 a1 a2 a3 a4 a5 a6 a7 b0 b1 b2 b3 b4 b5 b6 b7 c0 c1 c2 c3 c4 c5 c6 c7 w'' :=
  ⟨H.1.on hb, H.2.1.on hb, H.2.2.1.on hb, H.2.2.2.trans (hb.mono H.2.2.2.size)⟩

/-- Four values in their blocks. -/
def VFour (W : World) (g h i j : Nat) (a0 a1 a2 a3 a4 a5 a6 a7 b0 b1 b2 b3 b4 b5 b6 b7 c0 c1 c2 c3 c4 c5 c6 c7 d0 d1 d2 d3 d4 d5 d6 d7 : Value) (w' : World) : Prop :=
  At8 w' g a0 a1 a2 a3 a4 a5 a6 a7 ∧ At8 w' h b0 b1 b2 b3 b4 b5 b6 b7 ∧ At8 w' i c0 c1 c2 c3 c4 c5 c6 c7 ∧ At8 w' j d0 d1 d2 d3 d4 d5 d6 d7 ∧ Below W.heap.size W w'
theorem VFour.on {W : World} {g h i j : Nat} {a0 a1 a2 a3 a4 a5 a6 a7 b0 b1 b2 b3 b4 b5 b6 b7 c0 c1 c2 c3 c4 c5 c6 c7 d0 d1 d2 d3 d4 d5 d6 d7 : Value} {w' w'' : World} (H : VFour W g h i j a0 a1 a2 a3 a4 a5 a6 a7 b0 b1 b2 b3 b4 b5 b6 b7 c0 c1 c2 c3 c4 c5 c6 c7 d0 d1 d2 d3 d4 d5 d6 d7 w') (hb : Below w'.heap.size w' w'') : VFour W g h i j a0 a1 a2 a3 a4 a5 a6 a7 b0 b1 b2 b3 b4 b5 b6 b7 c0 c1 c2 c3 c4 c5 c6 c7 d0 d1 d2 d3 d4 d5 d6 d7 w'' :=
  ⟨H.1.on hb, H.2.1.on hb, H.2.2.1.on hb, H.2.2.2.1.on hb, H.2.2.2.2.trans (hb.mono H.2.2.2.2.size)⟩

/-- The list of two values in a block of its own. -/
theorem two_in {c : Cl} {g : Nat} {v v' : Vl} {x x' : Value} (h : v.In c x) (h' : v'.In c x') (h1 : CellsAt c g 0 x) (h2 : CellsAt c g 8 x') :
    (Vl.mk 4 false Nm.Num.zero [] [v, v'] []).In c (vlV 4 false false [] 0 [] (.slice (some ⟨g, 0, none⟩) 2 2) (.slice none 0 0)) := by
  simp only [Vl.In]
  exact ⟨some ⟨g, 0, none⟩, 2, none, 0, rfl, Nat.le_refl _, by simp [maxLen], Nat.le_refl _, by simp [maxLen], fun _ => ⟨g, 0, rfl, by simp only [LIn]; exact ⟨⟨x, h, h1⟩, ⟨x', h', h2⟩, trivial⟩⟩, fun h => absurd h (by simp)⟩
/-- The object of two members. -/
theorem pair_in {c : Cl} {g : Nat} {k k' : List UInt8} {v v' : Vl} {x x' : Value} (h : v.In c x) (h' : v'.In c x') (hk : c ⟨g, 0, none⟩ = some (.string ⟨k.toArray⟩)) (h1 : CellsAt c g 1 x) (hk' : c ⟨g, 9, none⟩ = some (.string ⟨k'.toArray⟩)) (h2 : CellsAt c g 10 x') :
    (Vl.mk 5 false Nm.Num.zero [] [] [(k, v), (k', v')]).In c (vlV 5 false false [] 0 [] (.slice none 0 0) (.slice (some ⟨g, 0, none⟩) 2 2)) := by
  simp only [Vl.In]
  exact ⟨none, 0, some ⟨g, 0, none⟩, 2, rfl, Nat.le_refl _, by simp [maxLen], Nat.le_refl _, by simp [maxLen], fun h => absurd h (by simp), fun _ => ⟨g, 0, rfl, by simp only [MIn, PIn]; exact ⟨⟨hk, x, h, h1⟩, ⟨hk', x', h', h2⟩, trivial⟩⟩⟩
theorem Blk.cellsAt {w : World} {g : Nat} {t : TypeId} {cs : Array Value} (h : Blk w g t cs) (o : Nat) (x : Value) (he : ∀ (j : Nat) u, x.cells[j]? = some u → cs[o + j]? = some u) : CellsAt w.cell? g o x :=
  fun j u hu => (h.cell _).trans (he j u hu)
theorem pair_may {v v' : Vl} (h : v.may = true) (h' : v'.may = true) : (Vl.mk 5 false Nm.Num.zero [] [] [([97], v), ([98], v')]).may = true :=
  Ps.mayO (fun p hp => by
    rcases List.mem_cons.1 hp with rfl | hp
    · exact ⟨show St.text [97] = true by decide, h⟩
    · rw [List.mem_singleton.1 hp]; exact ⟨show St.text [98] = true by decide, h'⟩) (show rises [[97], [98]] = true by decide)
theorem pair_find (v v' : Vl) : (Vl.mk 5 false Nm.Num.zero [] [] [([97], v), ([98], v')]).find [98] = some v' := by
  simp [Vl.find, Js.find]
theorem two_size (v v' : Vl) : (((Vl.mk 4 false Nm.Num.zero [] [v, v'] []).size : Nat) : Int) = 1 + (v.size : Int) + (v'.size : Int) := by
  simp only [Vl.size, sizeL, sizeM]; omega
theorem two_depth (v v' : Vl) : (((Vl.mk 4 false Nm.Num.zero [] [v, v'] []).depth : Nat) : Int) = 1 + max (v.depth : Int) (v'.depth : Int) := by
  simp only [Vl.depth, depthL, depthM]
  rw [if_pos (by simp)]
  omega

set_option linter.unusedVariables false in
set_option linter.unusedSimpArgs false in
set_option maxRecDepth 100000 in
set_option maxHeartbeats 8000000 in
theorem valueSame_any (s t u : ByteArray) (w : World) (hT : Tabs w) (hs : s.size ≤ 1000000000000000000) (ht : t.size ≤ 1000000000000000000) (hu : u.size ≤ 1000000000000000000) :
    Calls Tryd.prog 9 #[.string s, .string t, .string u] w fun e w' => e = .returned (.bool true) ∧ Below w.heap.size w w' := by
  have HT := Lib.hid hT
  clear hT
  go_enter Tryd.func9, Tryd.ntmps9
  go_wp2_with fail
  refine (up3_any _ HT.out).mono ?_
  rintro e w0 ⟨rfl, hb0⟩
  have HB0 := Lib.hid hb0
  clear hb0
  go_wp2_with fail
  refine (value_told s hs _).mono ?_
  rintro e w1 ⟨v1, y1, c1, rfl, hin, hb, hc⟩
  obtain ⟨k1, b1, n1, g1, x1, s1, A1, l1, p1, B1, m1, z1, rfl⟩ := In.cells hin
  have HC1 := Lib.hid hc
  have HBX := Lib.hid (HB0.out.trans (hb.mono HB0.out.size))
  have HA11 := Lib.hid (Blk.new w1 52 #[.int .i64 k1, .bool b1, .bool n1, .string ⟨g1.toArray⟩, .int .i64 x1, .string ⟨s1.toArray⟩, .slice A1 l1 p1, .slice B1 m1 z1])
  have HN11 := Lib.hid (In.keep (le_alloc w1 (.cells #[.int .i64 k1, .bool b1, .bool n1, .string ⟨g1.toArray⟩, .int .i64 x1, .string ⟨s1.toArray⟩, .slice A1 l1 p1, .slice B1 m1 z1] 52)) _ _ hin)
  have HB1 := Lib.hid (HBX.out.alloc HBX.out.size (.cells #[.int .i64 k1, .bool b1, .bool n1, .string ⟨g1.toArray⟩, .int .i64 x1, .string ⟨s1.toArray⟩, .slice A1 l1 p1, .slice B1 m1 z1] 52))
  clear hin hb hc HBX HB0 
  go_upto_region 3 with (fail)
  generalize w1.alloc (.cells #[.int .i64 k1, .bool b1, .bool n1, .string ⟨g1.toArray⟩, .int .i64 x1, .string ⟨s1.toArray⟩, .slice A1 l1 p1, .slice B1 m1 z1] 52) = w2 at *
  go_wp2_with fail
  refine (value_told t ht _).mono ?_
  rintro e w3 ⟨v2, y2, c2, rfl, hin, hb, hc⟩
  obtain ⟨k2, b2, n2, g2, x2, s2, A2, l2, p2, B2, m2, z2, rfl⟩ := In.cells hin
  have HC2 := Lib.hid hc
  have HBX := Lib.hid (HB1.out.trans (hb.mono HB1.out.size))
  have hz12 : w1.heap.size < w3.heap.size := (HA11.out.on hb).lt
  have HA12 := Lib.hid ((HA11.out.on hb).alloc (.cells #[.int .i64 k2, .bool b2, .bool n2, .string ⟨g2.toArray⟩, .int .i64 x2, .string ⟨s2.toArray⟩, .slice A2 l2 p2, .slice B2 m2 z2] 52))
  have HN12 := Lib.hid (In.keep ((le_below hb).trans (le_alloc w3 (.cells #[.int .i64 k2, .bool b2, .bool n2, .string ⟨g2.toArray⟩, .int .i64 x2, .string ⟨s2.toArray⟩, .slice A2 l2 p2, .slice B2 m2 z2] 52))) _ _ HN11.out)
  have HA22 := Lib.hid (Blk.new w3 52 #[.int .i64 k2, .bool b2, .bool n2, .string ⟨g2.toArray⟩, .int .i64 x2, .string ⟨s2.toArray⟩, .slice A2 l2 p2, .slice B2 m2 z2])
  have HN22 := Lib.hid (In.keep (le_alloc w3 (.cells #[.int .i64 k2, .bool b2, .bool n2, .string ⟨g2.toArray⟩, .int .i64 x2, .string ⟨s2.toArray⟩, .slice A2 l2 p2, .slice B2 m2 z2] 52)) _ _ hin)
  have HB2 := Lib.hid (HBX.out.alloc HBX.out.size (.cells #[.int .i64 k2, .bool b2, .bool n2, .string ⟨g2.toArray⟩, .int .i64 x2, .string ⟨s2.toArray⟩, .slice A2 l2 p2, .slice B2 m2 z2] 52))
  clear hin hb hc HBX HB1 HA11 HN11
  go_upto_region 4 with (fail)
  generalize w3.alloc (.cells #[.int .i64 k2, .bool b2, .bool n2, .string ⟨g2.toArray⟩, .int .i64 x2, .string ⟨s2.toArray⟩, .slice A2 l2 p2, .slice B2 m2 z2] 52) = w4 at *
  go_wp2_with fail
  refine (value_told u hu _).mono ?_
  rintro e w5 ⟨v3, y3, c3, rfl, hin, hb, hc⟩
  obtain ⟨k3, b3, n3, g3, x3, s3, A3, l3, p3, B3, m3, z3, rfl⟩ := In.cells hin
  have HC3 := Lib.hid hc
  have HBX := Lib.hid (HB2.out.trans (hb.mono HB2.out.size))
  have hz13 : w1.heap.size < w5.heap.size := (HA12.out.on hb).lt
  have HA13 := Lib.hid ((HA12.out.on hb).alloc (.cells #[.int .i64 k3, .bool b3, .bool n3, .string ⟨g3.toArray⟩, .int .i64 x3, .string ⟨s3.toArray⟩, .slice A3 l3 p3, .slice B3 m3 z3] 52))
  have HN13 := Lib.hid (In.keep ((le_below hb).trans (le_alloc w5 (.cells #[.int .i64 k3, .bool b3, .bool n3, .string ⟨g3.toArray⟩, .int .i64 x3, .string ⟨s3.toArray⟩, .slice A3 l3 p3, .slice B3 m3 z3] 52))) _ _ HN12.out)
  have hz23 : w3.heap.size < w5.heap.size := (HA22.out.on hb).lt
  have HA23 := Lib.hid ((HA22.out.on hb).alloc (.cells #[.int .i64 k3, .bool b3, .bool n3, .string ⟨g3.toArray⟩, .int .i64 x3, .string ⟨s3.toArray⟩, .slice A3 l3 p3, .slice B3 m3 z3] 52))
  have HN23 := Lib.hid (In.keep ((le_below hb).trans (le_alloc w5 (.cells #[.int .i64 k3, .bool b3, .bool n3, .string ⟨g3.toArray⟩, .int .i64 x3, .string ⟨s3.toArray⟩, .slice A3 l3 p3, .slice B3 m3 z3] 52))) _ _ HN22.out)
  have HA33 := Lib.hid (Blk.new w5 52 #[.int .i64 k3, .bool b3, .bool n3, .string ⟨g3.toArray⟩, .int .i64 x3, .string ⟨s3.toArray⟩, .slice A3 l3 p3, .slice B3 m3 z3])
  have HN33 := Lib.hid (In.keep (le_alloc w5 (.cells #[.int .i64 k3, .bool b3, .bool n3, .string ⟨g3.toArray⟩, .int .i64 x3, .string ⟨s3.toArray⟩, .slice A3 l3 p3, .slice B3 m3 z3] 52)) _ _ hin)
  have HB3 := Lib.hid (HBX.out.alloc HBX.out.size (.cells #[.int .i64 k3, .bool b3, .bool n3, .string ⟨g3.toArray⟩, .int .i64 x3, .string ⟨s3.toArray⟩, .slice A3 l3 p3, .slice B3 m3 z3] 52))
  clear hin hb hc HBX HB2 HA12 HN12 HA22 HN22
  go_upto_region 5 with (fail)
  generalize w5.alloc (.cells #[.int .i64 k3, .bool b3, .bool n3, .string ⟨g3.toArray⟩, .int .i64 x3, .string ⟨s3.toArray⟩, .slice A3 l3 p3, .slice B3 m3 z3] 52) = W at *
  rcases HC1.out with rfl | ⟨rfl, f1⟩
  · go_wp2_with fail
    go_ret
    exact ⟨rfl, HB3.out⟩
  rcases HC2.out with rfl | ⟨rfl, f2⟩
  · go_wp2_with fail
    go_ret
    exact ⟨rfl, HB3.out⟩
  rcases HC3.out with rfl | ⟨rfl, f3⟩
  · go_wp2_with fail
    go_ret
    exact ⟨rfl, HB3.out⟩
  clear HC1 HC2 HC3
  have HFIN := Lib.hid (show VThree W w1.heap.size w3.heap.size w5.heap.size (.int .i64 k1) (.bool b1) (.bool n1) (.string ⟨g1.toArray⟩) (.int .i64 x1) (.string ⟨s1.toArray⟩) (.slice A1 l1 p1) (.slice B1 m1 z1) (.int .i64 k2) (.bool b2) (.bool n2) (.string ⟨g2.toArray⟩) (.int .i64 x2) (.string ⟨s2.toArray⟩) (.slice A2 l2 p2) (.slice B2 m2 z2) (.int .i64 k3) (.bool b3) (.bool n3) (.string ⟨g3.toArray⟩) (.int .i64 x3) (.string ⟨s3.toArray⟩) (.slice A3 l3 p3) (.slice B3 m3 z3) W from ⟨HA13.out.at8, HA23.out.at8, HA33.out.at8, Below.refl _ _⟩)
  obtain ⟨q, hq⟩ : ∃ q, v1.same v2 = q := ⟨_, rfl⟩
  obtain ⟨r, hr⟩ : ∃ r, v2.same v3 = r := ⟨_, rfl⟩
  have HQ := Lib.hid hq
  have HR := Lib.hid hr
  clear hq hr
  have HAA := Lib.hid (same_on f1.1 f1.1 HN13.out HN13.out (same_refl v1))
  have HAB := Lib.hid (same_on f1.1 f2.1 HN13.out HN23.out HQ.out)
  have HBA := Lib.hid (same_on f2.1 f1.1 HN23.out HN13.out ((same_comm v2 v1).trans HQ.out))
  have HBC := Lib.hid (same_on f2.1 f3.1 HN23.out HN33.out HR.out)
  have HF1 := Lib.hid f1
  have HF2 := Lib.hid f2
  have HF3 := Lib.hid f3
  clear f1 f2 f3 HA13 HA23 HA33
  go_upto_region 7 with (fail)
  go_cut [72] from 44 to 73 (fun x wc => x = .bool false ∧ VThree W w1.heap.size w3.heap.size w5.heap.size (.int .i64 k1) (.bool b1) (.bool n1) (.string ⟨g1.toArray⟩) (.int .i64 x1) (.string ⟨s1.toArray⟩) (.slice A1 l1 p1) (.slice B1 m1 z1) (.int .i64 k2) (.bool b2) (.bool n2) (.string ⟨g2.toArray⟩) (.int .i64 x2) (.string ⟨s2.toArray⟩) (.slice A2 l2 p2) (.slice B2 m2 z2) (.int .i64 k3) (.bool b3) (.bool n3) (.string ⟨g3.toArray⟩) (.int .i64 x3) (.string ⟨s3.toArray⟩) (.slice A3 l3 p3) (.slice B3 m3 z3) wc)
  case first =>
    cases q with
    | false =>
      refine wp_region_held_drew (S := VThree W w1.heap.size w3.heap.size w5.heap.size (.int .i64 k1) (.bool b1) (.bool n1) (.string ⟨g1.toArray⟩) (.int .i64 x1) (.string ⟨s1.toArray⟩) (.slice A1 l1 p1) (.slice B1 m1 z1) (.int .i64 k2) (.bool b2) (.bool n2) (.string ⟨g2.toArray⟩) (.int .i64 x2) (.string ⟨s2.toArray⟩) (.slice A2 l2 p2) (.slice B2 m2 z2) (.int .i64 k3) (.bool b3) (.bool n3) (.string ⟨g3.toArray⟩) (.int .i64 x3) (.string ⟨s3.toArray⟩) (.slice A3 l3 p3) (.slice B3 m3 z3)) (by kernel_rfl) (VThree.on HFIN.out (Below.refl _ _).drew) (fun ht => ?_)
      refine wpAnyH_take (i := 0) (oi := ⟨some _, _, _, _, _, _⟩) (v := (.agg #[.int .i64 k1, .bool b1, .bool n1, .string ⟨g1.toArray⟩, .int .i64 x1, .string ⟨s1.toArray⟩, .slice A1 l1 p1, .slice B1 m1 z1])) rfl (by kernel_rfl) (by kernel_rfl) (by kernel_rfl) (fun _ _ _ h => h) (Or.inl ⟨by rfl, ?_⟩) ht ?_
      · intro W9 hSw
        obtain ⟨⟨c0, c1, c2, c3, c4, c5, c6, c7⟩, ⟨d0, d1, d2, d3, d4, d5, d6, d7⟩, ⟨e0, e1, e2, e3, e4, e5, e6, e7⟩, cb⟩ := hSw
        go_simp
      try simp only [Act.put, List.setIfInBounds_toArray, List.set_cons_zero, List.set_cons_succ]
      refine wpAnyH_take (i := 1) (oi := ⟨some _, _, _, _, _, _⟩) (v := (.agg #[.int .i64 k1, .bool b1, .bool n1, .string ⟨g1.toArray⟩, .int .i64 x1, .string ⟨s1.toArray⟩, .slice A1 l1 p1, .slice B1 m1 z1])) rfl (by kernel_rfl) (by kernel_rfl) (by kernel_rfl) (fun _ _ _ h => h) (Or.inl ⟨by rfl, ?_⟩) ht ?_
      · intro W9 hSw
        obtain ⟨⟨c0, c1, c2, c3, c4, c5, c6, c7⟩, ⟨d0, d1, d2, d3, d4, d5, d6, d7⟩, ⟨e0, e1, e2, e3, e4, e5, e6, e7⟩, cb⟩ := hSw
        go_simp
      try simp only [Act.put, List.setIfInBounds_toArray, List.set_cons_zero, List.set_cons_succ]
      refine wpAnyH_ready (rs := [2]) (by kernel_rfl) (by simp) ?_
      refine AllReadyH.cons (o := ⟨some _, _, _, _, _, _⟩) rfl (fun K hK => ?_) AllReadyH.nil
      go_simp
      refine (HAA.out _ ht.2.2.2).mono ?_
      rintro e6 w6 ⟨rfl, hb6⟩
      have hs : VThree W w1.heap.size w3.heap.size w5.heap.size (.int .i64 k1) (.bool b1) (.bool n1) (.string ⟨g1.toArray⟩) (.int .i64 x1) (.string ⟨s1.toArray⟩) (.slice A1 l1 p1) (.slice B1 m1 z1) (.int .i64 k2) (.bool b2) (.bool n2) (.string ⟨g2.toArray⟩) (.int .i64 x2) (.string ⟨s2.toArray⟩) (.slice A2 l2 p2) (.slice B2 m2 z2) (.int .i64 k3) (.bool b3) (.bool n3) (.string ⟨g3.toArray⟩) (.int .i64 x3) (.string ⟨s3.toArray⟩) (.slice A3 l3 p3) (.slice B3 m3 z3) w6 := VThree.on ht hb6
      clear hb6 ht
      go_wp2_with fail
      refine hK.out _ _ hs (fun ht => ?_)
      clear hK K hs
      try simp only [Act.put, List.setIfInBounds_toArray, List.set_cons_zero, List.set_cons_succ]
      refine wpAnyH_take (i := 3) (oi := ⟨some _, _, _, _, _, _⟩) (v := (.bool false)) rfl (by kernel_rfl) (by kernel_rfl) (by kernel_rfl) (fun _ _ _ h => h) (Or.inl ⟨by rfl, ?_⟩) ht ?_
      · intro W9 hSw
        obtain ⟨⟨c0, c1, c2, c3, c4, c5, c6, c7⟩, ⟨d0, d1, d2, d3, d4, d5, d6, d7⟩, ⟨e0, e1, e2, e3, e4, e5, e6, e7⟩, cb⟩ := hSw
        go_simp
      try simp only [Act.put, List.setIfInBounds_toArray, List.set_cons_zero, List.set_cons_succ]
      refine wpAnyH_take (i := 4) (oi := ⟨some _, _, _, _, _, _⟩) (v := (.bool false)) rfl (by kernel_rfl) (by kernel_rfl) (by kernel_rfl) (fun _ _ _ h => h) (Or.inl ⟨by rfl, ?_⟩) ht ?_
      · intro W9 hSw
        obtain ⟨⟨c0, c1, c2, c3, c4, c5, c6, c7⟩, ⟨d0, d1, d2, d3, d4, d5, d6, d7⟩, ⟨e0, e1, e2, e3, e4, e5, e6, e7⟩, cb⟩ := hSw
        go_simp
      try simp only [Act.put, List.setIfInBounds_toArray, List.set_cons_zero, List.set_cons_succ]
      refine wpAnyH_take (i := 5) (oi := ⟨some _, _, _, _, _, _⟩) (v := (.agg #[.int .i64 k1, .bool b1, .bool n1, .string ⟨g1.toArray⟩, .int .i64 x1, .string ⟨s1.toArray⟩, .slice A1 l1 p1, .slice B1 m1 z1])) rfl (by kernel_rfl) (by kernel_rfl) (by kernel_rfl) (fun _ _ _ h => h) (Or.inl ⟨by rfl, ?_⟩) ht ?_
      · intro W9 hSw
        obtain ⟨⟨c0, c1, c2, c3, c4, c5, c6, c7⟩, ⟨d0, d1, d2, d3, d4, d5, d6, d7⟩, ⟨e0, e1, e2, e3, e4, e5, e6, e7⟩, cb⟩ := hSw
        go_simp
      try simp only [Act.put, List.setIfInBounds_toArray, List.set_cons_zero, List.set_cons_succ]
      refine wpAnyH_take (i := 6) (oi := ⟨some _, _, _, _, _, _⟩) (v := (.agg #[.int .i64 k2, .bool b2, .bool n2, .string ⟨g2.toArray⟩, .int .i64 x2, .string ⟨s2.toArray⟩, .slice A2 l2 p2, .slice B2 m2 z2])) rfl (by kernel_rfl) (by kernel_rfl) (by kernel_rfl) (fun _ _ _ h => h) (Or.inl ⟨by rfl, ?_⟩) ht ?_
      · intro W9 hSw
        obtain ⟨⟨c0, c1, c2, c3, c4, c5, c6, c7⟩, ⟨d0, d1, d2, d3, d4, d5, d6, d7⟩, ⟨e0, e1, e2, e3, e4, e5, e6, e7⟩, cb⟩ := hSw
        go_simp
      try simp only [Act.put, List.setIfInBounds_toArray, List.set_cons_zero, List.set_cons_succ]
      refine wpAnyH_take (i := 8) (oi := ⟨some _, _, _, _, _, _⟩) (v := (.agg #[.int .i64 k2, .bool b2, .bool n2, .string ⟨g2.toArray⟩, .int .i64 x2, .string ⟨s2.toArray⟩, .slice A2 l2 p2, .slice B2 m2 z2])) rfl (by kernel_rfl) (by kernel_rfl) (by kernel_rfl) (fun _ _ _ h => h) (Or.inl ⟨by rfl, ?_⟩) ht ?_
      · intro W9 hSw
        obtain ⟨⟨c0, c1, c2, c3, c4, c5, c6, c7⟩, ⟨d0, d1, d2, d3, d4, d5, d6, d7⟩, ⟨e0, e1, e2, e3, e4, e5, e6, e7⟩, cb⟩ := hSw
        go_simp
      try simp only [Act.put, List.setIfInBounds_toArray, List.set_cons_zero, List.set_cons_succ]
      refine wpAnyH_take (i := 9) (oi := ⟨some _, _, _, _, _, _⟩) (v := (.agg #[.int .i64 k1, .bool b1, .bool n1, .string ⟨g1.toArray⟩, .int .i64 x1, .string ⟨s1.toArray⟩, .slice A1 l1 p1, .slice B1 m1 z1])) rfl (by kernel_rfl) (by kernel_rfl) (by kernel_rfl) (fun _ _ _ h => h) (Or.inl ⟨by rfl, ?_⟩) ht ?_
      · intro W9 hSw
        obtain ⟨⟨c0, c1, c2, c3, c4, c5, c6, c7⟩, ⟨d0, d1, d2, d3, d4, d5, d6, d7⟩, ⟨e0, e1, e2, e3, e4, e5, e6, e7⟩, cb⟩ := hSw
        go_simp
      try simp only [Act.put, List.setIfInBounds_toArray, List.set_cons_zero, List.set_cons_succ]
      refine wpAnyH_ready (rs := [7]) (by kernel_rfl) (by simp) ?_
      refine AllReadyH.cons (o := ⟨some _, _, _, _, _, _⟩) rfl (fun K hK => ?_) AllReadyH.nil
      go_simp
      refine (HAB.out _ ht.2.2.2).mono ?_
      rintro e6 w6 ⟨rfl, hb6⟩
      have hs : VThree W w1.heap.size w3.heap.size w5.heap.size (.int .i64 k1) (.bool b1) (.bool n1) (.string ⟨g1.toArray⟩) (.int .i64 x1) (.string ⟨s1.toArray⟩) (.slice A1 l1 p1) (.slice B1 m1 z1) (.int .i64 k2) (.bool b2) (.bool n2) (.string ⟨g2.toArray⟩) (.int .i64 x2) (.string ⟨s2.toArray⟩) (.slice A2 l2 p2) (.slice B2 m2 z2) (.int .i64 k3) (.bool b3) (.bool n3) (.string ⟨g3.toArray⟩) (.int .i64 x3) (.string ⟨s3.toArray⟩) (.slice A3 l3 p3) (.slice B3 m3 z3) w6 := VThree.on ht hb6
      clear hb6 ht
      go_wp2_with fail
      refine hK.out _ _ hs (fun ht => ?_)
      clear hK K hs
      try simp only [Act.put, List.setIfInBounds_toArray, List.set_cons_zero, List.set_cons_succ]
      refine wpAnyH_ready (rs := [10]) (by kernel_rfl) (by simp) ?_
      refine AllReadyH.cons (o := ⟨some _, _, _, _, _, _⟩) rfl (fun K hK => ?_) AllReadyH.nil
      go_simp
      refine (HBA.out _ ht.2.2.2).mono ?_
      rintro e6 w6 ⟨rfl, hb6⟩
      have hs : VThree W w1.heap.size w3.heap.size w5.heap.size (.int .i64 k1) (.bool b1) (.bool n1) (.string ⟨g1.toArray⟩) (.int .i64 x1) (.string ⟨s1.toArray⟩) (.slice A1 l1 p1) (.slice B1 m1 z1) (.int .i64 k2) (.bool b2) (.bool n2) (.string ⟨g2.toArray⟩) (.int .i64 x2) (.string ⟨s2.toArray⟩) (.slice A2 l2 p2) (.slice B2 m2 z2) (.int .i64 k3) (.bool b3) (.bool n3) (.string ⟨g3.toArray⟩) (.int .i64 x3) (.string ⟨s3.toArray⟩) (.slice A3 l3 p3) (.slice B3 m3 z3) w6 := VThree.on ht hb6
      clear hb6 ht
      go_wp2_with fail
      refine hK.out _ _ hs (fun ht => ?_)
      clear hK K hs
      try simp only [Act.put, List.setIfInBounds_toArray, List.set_cons_zero, List.set_cons_succ]
      refine wpAnyH_take (i := 11) (oi := ⟨some _, _, _, _, _, _⟩) (v := (.bool false)) rfl (by kernel_rfl) (by kernel_rfl) (by kernel_rfl) (fun _ _ _ h => h) (Or.inl ⟨by rfl, ?_⟩) ht ?_
      · intro W9 hSw
        obtain ⟨⟨c0, c1, c2, c3, c4, c5, c6, c7⟩, ⟨d0, d1, d2, d3, d4, d5, d6, d7⟩, ⟨e0, e1, e2, e3, e4, e5, e6, e7⟩, cb⟩ := hSw
        go_simp
      try simp only [Act.put, List.setIfInBounds_toArray, List.set_cons_zero, List.set_cons_succ]
      refine wpAnyH_take (i := 12) (oi := ⟨some _, _, _, _, _, _⟩) (v := (.bool false)) rfl (by kernel_rfl) (by kernel_rfl) (by kernel_rfl) (fun _ _ _ h => h) (Or.inl ⟨by rfl, ?_⟩) ht ?_
      · intro W9 hSw
        obtain ⟨⟨c0, c1, c2, c3, c4, c5, c6, c7⟩, ⟨d0, d1, d2, d3, d4, d5, d6, d7⟩, ⟨e0, e1, e2, e3, e4, e5, e6, e7⟩, cb⟩ := hSw
        go_simp
      try simp only [Act.put, List.setIfInBounds_toArray, List.set_cons_zero, List.set_cons_succ]
      refine wpAnyH_take (i := 13) (oi := ⟨some _, _, _, _, _, _⟩) (v := (.bool false)) rfl (by kernel_rfl) (by kernel_rfl) (by kernel_rfl) (fun _ _ _ h => h) (Or.inl ⟨by rfl, ?_⟩) ht ?_
      · intro W9 hSw
        obtain ⟨⟨c0, c1, c2, c3, c4, c5, c6, c7⟩, ⟨d0, d1, d2, d3, d4, d5, d6, d7⟩, ⟨e0, e1, e2, e3, e4, e5, e6, e7⟩, cb⟩ := hSw
        go_simp
      try simp only [Act.put, List.setIfInBounds_toArray, List.set_cons_zero, List.set_cons_succ]
      refine wpAnyH_take (i := 14) (oi := ⟨some _, _, _, _, _, _⟩) (v := (.agg #[.int .i64 k1, .bool b1, .bool n1, .string ⟨g1.toArray⟩, .int .i64 x1, .string ⟨s1.toArray⟩, .slice A1 l1 p1, .slice B1 m1 z1])) rfl (by kernel_rfl) (by kernel_rfl) (by kernel_rfl) (fun _ _ _ h => h) (Or.inl ⟨by rfl, ?_⟩) ht ?_
      · intro W9 hSw
        obtain ⟨⟨c0, c1, c2, c3, c4, c5, c6, c7⟩, ⟨d0, d1, d2, d3, d4, d5, d6, d7⟩, ⟨e0, e1, e2, e3, e4, e5, e6, e7⟩, cb⟩ := hSw
        go_simp
      try simp only [Act.put, List.setIfInBounds_toArray, List.set_cons_zero, List.set_cons_succ]
      refine wpAnyH_take (i := 15) (oi := ⟨some _, _, _, _, _, _⟩) (v := (.agg #[.int .i64 k2, .bool b2, .bool n2, .string ⟨g2.toArray⟩, .int .i64 x2, .string ⟨s2.toArray⟩, .slice A2 l2 p2, .slice B2 m2 z2])) rfl (by kernel_rfl) (by kernel_rfl) (by kernel_rfl) (fun _ _ _ h => h) (Or.inl ⟨by rfl, ?_⟩) ht ?_
      · intro W9 hSw
        obtain ⟨⟨c0, c1, c2, c3, c4, c5, c6, c7⟩, ⟨d0, d1, d2, d3, d4, d5, d6, d7⟩, ⟨e0, e1, e2, e3, e4, e5, e6, e7⟩, cb⟩ := hSw
        go_simp
      try simp only [Act.put, List.setIfInBounds_toArray, List.set_cons_zero, List.set_cons_succ]
      refine wpAnyH_ready (rs := [16]) (by kernel_rfl) (by simp) ?_
      refine AllReadyH.cons (o := ⟨some _, _, _, _, _, _⟩) rfl (fun K hK => ?_) AllReadyH.nil
      go_simp
      refine (HAB.out _ ht.2.2.2).mono ?_
      rintro e6 w6 ⟨rfl, hb6⟩
      have hs : VThree W w1.heap.size w3.heap.size w5.heap.size (.int .i64 k1) (.bool b1) (.bool n1) (.string ⟨g1.toArray⟩) (.int .i64 x1) (.string ⟨s1.toArray⟩) (.slice A1 l1 p1) (.slice B1 m1 z1) (.int .i64 k2) (.bool b2) (.bool n2) (.string ⟨g2.toArray⟩) (.int .i64 x2) (.string ⟨s2.toArray⟩) (.slice A2 l2 p2) (.slice B2 m2 z2) (.int .i64 k3) (.bool b3) (.bool n3) (.string ⟨g3.toArray⟩) (.int .i64 x3) (.string ⟨s3.toArray⟩) (.slice A3 l3 p3) (.slice B3 m3 z3) w6 := VThree.on ht hb6
      clear hb6 ht
      go_wp2_with fail
      refine hK.out _ _ hs (fun ht => ?_)
      clear hK K hs
      try simp only [Act.put, List.setIfInBounds_toArray, List.set_cons_zero, List.set_cons_succ]
      refine wpAnyH_take (i := 17) (oi := ⟨some _, _, _, _, _, _⟩) (v := (.bool false)) rfl (by kernel_rfl) (by kernel_rfl) (by kernel_rfl) (fun _ _ _ h => h) (Or.inl ⟨by rfl, ?_⟩) ht ?_
      · intro W9 hSw
        obtain ⟨⟨c0, c1, c2, c3, c4, c5, c6, c7⟩, ⟨d0, d1, d2, d3, d4, d5, d6, d7⟩, ⟨e0, e1, e2, e3, e4, e5, e6, e7⟩, cb⟩ := hSw
        go_simp
      try simp only [Act.put, List.setIfInBounds_toArray, List.set_cons_zero, List.set_cons_succ]
      refine wpAnyH_take (i := 18) (oi := ⟨some _, _, _, _, _, _⟩) (v := undef) rfl (by kernel_rfl) (by kernel_rfl) (by kernel_rfl) (fun _ _ _ h => h) (Or.inr ⟨by rfl, rfl⟩) ht ?_
      try simp only [Act.put, List.setIfInBounds_toArray, List.set_cons_zero, List.set_cons_succ]
      refine wpAnyH_take (i := 19) (oi := ⟨some _, _, _, _, _, _⟩) (v := undef) rfl (by kernel_rfl) (by kernel_rfl) (by kernel_rfl) (fun _ _ _ h => h) (Or.inr ⟨by rfl, rfl⟩) ht ?_
      try simp only [Act.put, List.setIfInBounds_toArray, List.set_cons_zero, List.set_cons_succ]
      refine wpAnyH_take (i := 20) (oi := ⟨some _, _, _, _, _, _⟩) (v := undef) rfl (by kernel_rfl) (by kernel_rfl) (by kernel_rfl) (fun _ _ _ h => h) (Or.inr ⟨by rfl, rfl⟩) ht ?_
      try simp only [Act.put, List.setIfInBounds_toArray, List.set_cons_zero, List.set_cons_succ]
      refine wpAnyH_take (i := 21) (oi := ⟨some _, _, _, _, _, _⟩) (v := (.bool false)) rfl (by kernel_rfl) (by kernel_rfl) (by kernel_rfl) (fun _ _ _ h => h) (Or.inl ⟨by rfl, ?_⟩) ht ?_
      · intro W9 hSw
        obtain ⟨⟨c0, c1, c2, c3, c4, c5, c6, c7⟩, ⟨d0, d1, d2, d3, d4, d5, d6, d7⟩, ⟨e0, e1, e2, e3, e4, e5, e6, e7⟩, cb⟩ := hSw
        go_simp
      try simp only [Act.put, List.setIfInBounds_toArray, List.set_cons_zero, List.set_cons_succ]
      refine wpAnyH_take (i := 22) (oi := ⟨some _, _, _, _, _, _⟩) (v := (.bool false)) rfl (by kernel_rfl) (by kernel_rfl) (by kernel_rfl) (fun _ _ _ h => h) (Or.inl ⟨by rfl, ?_⟩) ht ?_
      · intro W9 hSw
        obtain ⟨⟨c0, c1, c2, c3, c4, c5, c6, c7⟩, ⟨d0, d1, d2, d3, d4, d5, d6, d7⟩, ⟨e0, e1, e2, e3, e4, e5, e6, e7⟩, cb⟩ := hSw
        go_simp
      try simp only [Act.put, List.setIfInBounds_toArray, List.set_cons_zero, List.set_cons_succ]
      refine wpAnyH_take (i := 23) (oi := ⟨some _, _, _, _, _, _⟩) (v := undef) rfl (by kernel_rfl) (by kernel_rfl) (by kernel_rfl) (fun _ _ _ h => h) (Or.inr ⟨by rfl, rfl⟩) ht ?_
      try simp only [Act.put, List.setIfInBounds_toArray, List.set_cons_zero, List.set_cons_succ]
      refine wpAnyH_take (i := 24) (oi := ⟨some _, _, _, _, _, _⟩) (v := undef) rfl (by kernel_rfl) (by kernel_rfl) (by kernel_rfl) (fun _ _ _ h => h) (Or.inr ⟨by rfl, rfl⟩) ht ?_
      try simp only [Act.put, List.setIfInBounds_toArray, List.set_cons_zero, List.set_cons_succ]
      refine wpAnyH_take (i := 25) (oi := ⟨some _, _, _, _, _, _⟩) (v := undef) rfl (by kernel_rfl) (by kernel_rfl) (by kernel_rfl) (fun _ _ _ h => h) (Or.inr ⟨by rfl, rfl⟩) ht ?_
      try simp only [Act.put, List.setIfInBounds_toArray, List.set_cons_zero, List.set_cons_succ]
      refine wpAnyH_take (i := 26) (oi := ⟨some _, _, _, _, _, _⟩) (v := undef) rfl (by kernel_rfl) (by kernel_rfl) (by kernel_rfl) (fun _ _ _ h => h) (Or.inr ⟨by rfl, rfl⟩) ht ?_
      try simp only [Act.put, List.setIfInBounds_toArray, List.set_cons_zero, List.set_cons_succ]
      refine wpAnyH_take (i := 27) (oi := ⟨some _, _, _, _, _, _⟩) (v := (.bool false)) rfl (by kernel_rfl) (by kernel_rfl) (by kernel_rfl) (fun _ _ _ h => h) (Or.inl ⟨by rfl, ?_⟩) ht ?_
      · intro W9 hSw
        obtain ⟨⟨c0, c1, c2, c3, c4, c5, c6, c7⟩, ⟨d0, d1, d2, d3, d4, d5, d6, d7⟩, ⟨e0, e1, e2, e3, e4, e5, e6, e7⟩, cb⟩ := hSw
        go_simp
      try simp only [Act.put, List.setIfInBounds_toArray, List.set_cons_zero, List.set_cons_succ]
      refine wpAnyH_take (i := 28) (oi := ⟨some _, _, _, _, _, _⟩) (v := (.bool false)) rfl (by kernel_rfl) (by kernel_rfl) (by kernel_rfl) (fun _ _ _ h => h) (Or.inl ⟨by rfl, ?_⟩) ht ?_
      · intro W9 hSw
        obtain ⟨⟨c0, c1, c2, c3, c4, c5, c6, c7⟩, ⟨d0, d1, d2, d3, d4, d5, d6, d7⟩, ⟨e0, e1, e2, e3, e4, e5, e6, e7⟩, cb⟩ := hSw
        go_simp
      try simp only [Act.put, List.setIfInBounds_toArray, List.set_cons_zero, List.set_cons_succ]
      refine wpAnyH_done (by kernel_rfl) ?_ _
      go_wp2_with fail
      go_meet
      case rel => exact ⟨rfl, ht⟩
    | true =>
      have HAC := Lib.hid (same_on HF1.out.1 HF3.out.1 HN13.out HN33.out (show v1.same v3 = r by rw [(same_iff v1 v2).1 HQ.out]; exact HR.out))
      cases r with
      | false =>
        refine wp_region_held_drew (S := VThree W w1.heap.size w3.heap.size w5.heap.size (.int .i64 k1) (.bool b1) (.bool n1) (.string ⟨g1.toArray⟩) (.int .i64 x1) (.string ⟨s1.toArray⟩) (.slice A1 l1 p1) (.slice B1 m1 z1) (.int .i64 k2) (.bool b2) (.bool n2) (.string ⟨g2.toArray⟩) (.int .i64 x2) (.string ⟨s2.toArray⟩) (.slice A2 l2 p2) (.slice B2 m2 z2) (.int .i64 k3) (.bool b3) (.bool n3) (.string ⟨g3.toArray⟩) (.int .i64 x3) (.string ⟨s3.toArray⟩) (.slice A3 l3 p3) (.slice B3 m3 z3)) (by kernel_rfl) (VThree.on HFIN.out (Below.refl _ _).drew) (fun ht => ?_)
        refine wpAnyH_take (i := 0) (oi := ⟨some _, _, _, _, _, _⟩) (v := (.agg #[.int .i64 k1, .bool b1, .bool n1, .string ⟨g1.toArray⟩, .int .i64 x1, .string ⟨s1.toArray⟩, .slice A1 l1 p1, .slice B1 m1 z1])) rfl (by kernel_rfl) (by kernel_rfl) (by kernel_rfl) (fun _ _ _ h => h) (Or.inl ⟨by rfl, ?_⟩) ht ?_
        · intro W9 hSw
          obtain ⟨⟨c0, c1, c2, c3, c4, c5, c6, c7⟩, ⟨d0, d1, d2, d3, d4, d5, d6, d7⟩, ⟨e0, e1, e2, e3, e4, e5, e6, e7⟩, cb⟩ := hSw
          go_simp
        try simp only [Act.put, List.setIfInBounds_toArray, List.set_cons_zero, List.set_cons_succ]
        refine wpAnyH_take (i := 1) (oi := ⟨some _, _, _, _, _, _⟩) (v := (.agg #[.int .i64 k1, .bool b1, .bool n1, .string ⟨g1.toArray⟩, .int .i64 x1, .string ⟨s1.toArray⟩, .slice A1 l1 p1, .slice B1 m1 z1])) rfl (by kernel_rfl) (by kernel_rfl) (by kernel_rfl) (fun _ _ _ h => h) (Or.inl ⟨by rfl, ?_⟩) ht ?_
        · intro W9 hSw
          obtain ⟨⟨c0, c1, c2, c3, c4, c5, c6, c7⟩, ⟨d0, d1, d2, d3, d4, d5, d6, d7⟩, ⟨e0, e1, e2, e3, e4, e5, e6, e7⟩, cb⟩ := hSw
          go_simp
        try simp only [Act.put, List.setIfInBounds_toArray, List.set_cons_zero, List.set_cons_succ]
        refine wpAnyH_ready (rs := [2]) (by kernel_rfl) (by simp) ?_
        refine AllReadyH.cons (o := ⟨some _, _, _, _, _, _⟩) rfl (fun K hK => ?_) AllReadyH.nil
        go_simp
        refine (HAA.out _ ht.2.2.2).mono ?_
        rintro e6 w6 ⟨rfl, hb6⟩
        have hs : VThree W w1.heap.size w3.heap.size w5.heap.size (.int .i64 k1) (.bool b1) (.bool n1) (.string ⟨g1.toArray⟩) (.int .i64 x1) (.string ⟨s1.toArray⟩) (.slice A1 l1 p1) (.slice B1 m1 z1) (.int .i64 k2) (.bool b2) (.bool n2) (.string ⟨g2.toArray⟩) (.int .i64 x2) (.string ⟨s2.toArray⟩) (.slice A2 l2 p2) (.slice B2 m2 z2) (.int .i64 k3) (.bool b3) (.bool n3) (.string ⟨g3.toArray⟩) (.int .i64 x3) (.string ⟨s3.toArray⟩) (.slice A3 l3 p3) (.slice B3 m3 z3) w6 := VThree.on ht hb6
        clear hb6 ht
        go_wp2_with fail
        refine hK.out _ _ hs (fun ht => ?_)
        clear hK K hs
        try simp only [Act.put, List.setIfInBounds_toArray, List.set_cons_zero, List.set_cons_succ]
        refine wpAnyH_take (i := 3) (oi := ⟨some _, _, _, _, _, _⟩) (v := (.bool false)) rfl (by kernel_rfl) (by kernel_rfl) (by kernel_rfl) (fun _ _ _ h => h) (Or.inl ⟨by rfl, ?_⟩) ht ?_
        · intro W9 hSw
          obtain ⟨⟨c0, c1, c2, c3, c4, c5, c6, c7⟩, ⟨d0, d1, d2, d3, d4, d5, d6, d7⟩, ⟨e0, e1, e2, e3, e4, e5, e6, e7⟩, cb⟩ := hSw
          go_simp
        try simp only [Act.put, List.setIfInBounds_toArray, List.set_cons_zero, List.set_cons_succ]
        refine wpAnyH_take (i := 4) (oi := ⟨some _, _, _, _, _, _⟩) (v := (.bool false)) rfl (by kernel_rfl) (by kernel_rfl) (by kernel_rfl) (fun _ _ _ h => h) (Or.inl ⟨by rfl, ?_⟩) ht ?_
        · intro W9 hSw
          obtain ⟨⟨c0, c1, c2, c3, c4, c5, c6, c7⟩, ⟨d0, d1, d2, d3, d4, d5, d6, d7⟩, ⟨e0, e1, e2, e3, e4, e5, e6, e7⟩, cb⟩ := hSw
          go_simp
        try simp only [Act.put, List.setIfInBounds_toArray, List.set_cons_zero, List.set_cons_succ]
        refine wpAnyH_take (i := 5) (oi := ⟨some _, _, _, _, _, _⟩) (v := (.agg #[.int .i64 k1, .bool b1, .bool n1, .string ⟨g1.toArray⟩, .int .i64 x1, .string ⟨s1.toArray⟩, .slice A1 l1 p1, .slice B1 m1 z1])) rfl (by kernel_rfl) (by kernel_rfl) (by kernel_rfl) (fun _ _ _ h => h) (Or.inl ⟨by rfl, ?_⟩) ht ?_
        · intro W9 hSw
          obtain ⟨⟨c0, c1, c2, c3, c4, c5, c6, c7⟩, ⟨d0, d1, d2, d3, d4, d5, d6, d7⟩, ⟨e0, e1, e2, e3, e4, e5, e6, e7⟩, cb⟩ := hSw
          go_simp
        try simp only [Act.put, List.setIfInBounds_toArray, List.set_cons_zero, List.set_cons_succ]
        refine wpAnyH_take (i := 6) (oi := ⟨some _, _, _, _, _, _⟩) (v := (.agg #[.int .i64 k2, .bool b2, .bool n2, .string ⟨g2.toArray⟩, .int .i64 x2, .string ⟨s2.toArray⟩, .slice A2 l2 p2, .slice B2 m2 z2])) rfl (by kernel_rfl) (by kernel_rfl) (by kernel_rfl) (fun _ _ _ h => h) (Or.inl ⟨by rfl, ?_⟩) ht ?_
        · intro W9 hSw
          obtain ⟨⟨c0, c1, c2, c3, c4, c5, c6, c7⟩, ⟨d0, d1, d2, d3, d4, d5, d6, d7⟩, ⟨e0, e1, e2, e3, e4, e5, e6, e7⟩, cb⟩ := hSw
          go_simp
        try simp only [Act.put, List.setIfInBounds_toArray, List.set_cons_zero, List.set_cons_succ]
        refine wpAnyH_take (i := 8) (oi := ⟨some _, _, _, _, _, _⟩) (v := (.agg #[.int .i64 k2, .bool b2, .bool n2, .string ⟨g2.toArray⟩, .int .i64 x2, .string ⟨s2.toArray⟩, .slice A2 l2 p2, .slice B2 m2 z2])) rfl (by kernel_rfl) (by kernel_rfl) (by kernel_rfl) (fun _ _ _ h => h) (Or.inl ⟨by rfl, ?_⟩) ht ?_
        · intro W9 hSw
          obtain ⟨⟨c0, c1, c2, c3, c4, c5, c6, c7⟩, ⟨d0, d1, d2, d3, d4, d5, d6, d7⟩, ⟨e0, e1, e2, e3, e4, e5, e6, e7⟩, cb⟩ := hSw
          go_simp
        try simp only [Act.put, List.setIfInBounds_toArray, List.set_cons_zero, List.set_cons_succ]
        refine wpAnyH_take (i := 9) (oi := ⟨some _, _, _, _, _, _⟩) (v := (.agg #[.int .i64 k1, .bool b1, .bool n1, .string ⟨g1.toArray⟩, .int .i64 x1, .string ⟨s1.toArray⟩, .slice A1 l1 p1, .slice B1 m1 z1])) rfl (by kernel_rfl) (by kernel_rfl) (by kernel_rfl) (fun _ _ _ h => h) (Or.inl ⟨by rfl, ?_⟩) ht ?_
        · intro W9 hSw
          obtain ⟨⟨c0, c1, c2, c3, c4, c5, c6, c7⟩, ⟨d0, d1, d2, d3, d4, d5, d6, d7⟩, ⟨e0, e1, e2, e3, e4, e5, e6, e7⟩, cb⟩ := hSw
          go_simp
        try simp only [Act.put, List.setIfInBounds_toArray, List.set_cons_zero, List.set_cons_succ]
        refine wpAnyH_ready (rs := [7]) (by kernel_rfl) (by simp) ?_
        refine AllReadyH.cons (o := ⟨some _, _, _, _, _, _⟩) rfl (fun K hK => ?_) AllReadyH.nil
        go_simp
        refine (HAB.out _ ht.2.2.2).mono ?_
        rintro e6 w6 ⟨rfl, hb6⟩
        have hs : VThree W w1.heap.size w3.heap.size w5.heap.size (.int .i64 k1) (.bool b1) (.bool n1) (.string ⟨g1.toArray⟩) (.int .i64 x1) (.string ⟨s1.toArray⟩) (.slice A1 l1 p1) (.slice B1 m1 z1) (.int .i64 k2) (.bool b2) (.bool n2) (.string ⟨g2.toArray⟩) (.int .i64 x2) (.string ⟨s2.toArray⟩) (.slice A2 l2 p2) (.slice B2 m2 z2) (.int .i64 k3) (.bool b3) (.bool n3) (.string ⟨g3.toArray⟩) (.int .i64 x3) (.string ⟨s3.toArray⟩) (.slice A3 l3 p3) (.slice B3 m3 z3) w6 := VThree.on ht hb6
        clear hb6 ht
        go_wp2_with fail
        refine hK.out _ _ hs (fun ht => ?_)
        clear hK K hs
        try simp only [Act.put, List.setIfInBounds_toArray, List.set_cons_zero, List.set_cons_succ]
        refine wpAnyH_ready (rs := [10]) (by kernel_rfl) (by simp) ?_
        refine AllReadyH.cons (o := ⟨some _, _, _, _, _, _⟩) rfl (fun K hK => ?_) AllReadyH.nil
        go_simp
        refine (HBA.out _ ht.2.2.2).mono ?_
        rintro e6 w6 ⟨rfl, hb6⟩
        have hs : VThree W w1.heap.size w3.heap.size w5.heap.size (.int .i64 k1) (.bool b1) (.bool n1) (.string ⟨g1.toArray⟩) (.int .i64 x1) (.string ⟨s1.toArray⟩) (.slice A1 l1 p1) (.slice B1 m1 z1) (.int .i64 k2) (.bool b2) (.bool n2) (.string ⟨g2.toArray⟩) (.int .i64 x2) (.string ⟨s2.toArray⟩) (.slice A2 l2 p2) (.slice B2 m2 z2) (.int .i64 k3) (.bool b3) (.bool n3) (.string ⟨g3.toArray⟩) (.int .i64 x3) (.string ⟨s3.toArray⟩) (.slice A3 l3 p3) (.slice B3 m3 z3) w6 := VThree.on ht hb6
        clear hb6 ht
        go_wp2_with fail
        refine hK.out _ _ hs (fun ht => ?_)
        clear hK K hs
        try simp only [Act.put, List.setIfInBounds_toArray, List.set_cons_zero, List.set_cons_succ]
        refine wpAnyH_take (i := 11) (oi := ⟨some _, _, _, _, _, _⟩) (v := (.bool false)) rfl (by kernel_rfl) (by kernel_rfl) (by kernel_rfl) (fun _ _ _ h => h) (Or.inl ⟨by rfl, ?_⟩) ht ?_
        · intro W9 hSw
          obtain ⟨⟨c0, c1, c2, c3, c4, c5, c6, c7⟩, ⟨d0, d1, d2, d3, d4, d5, d6, d7⟩, ⟨e0, e1, e2, e3, e4, e5, e6, e7⟩, cb⟩ := hSw
          go_simp
        try simp only [Act.put, List.setIfInBounds_toArray, List.set_cons_zero, List.set_cons_succ]
        refine wpAnyH_take (i := 12) (oi := ⟨some _, _, _, _, _, _⟩) (v := (.bool false)) rfl (by kernel_rfl) (by kernel_rfl) (by kernel_rfl) (fun _ _ _ h => h) (Or.inl ⟨by rfl, ?_⟩) ht ?_
        · intro W9 hSw
          obtain ⟨⟨c0, c1, c2, c3, c4, c5, c6, c7⟩, ⟨d0, d1, d2, d3, d4, d5, d6, d7⟩, ⟨e0, e1, e2, e3, e4, e5, e6, e7⟩, cb⟩ := hSw
          go_simp
        try simp only [Act.put, List.setIfInBounds_toArray, List.set_cons_zero, List.set_cons_succ]
        refine wpAnyH_take (i := 13) (oi := ⟨some _, _, _, _, _, _⟩) (v := (.bool false)) rfl (by kernel_rfl) (by kernel_rfl) (by kernel_rfl) (fun _ _ _ h => h) (Or.inl ⟨by rfl, ?_⟩) ht ?_
        · intro W9 hSw
          obtain ⟨⟨c0, c1, c2, c3, c4, c5, c6, c7⟩, ⟨d0, d1, d2, d3, d4, d5, d6, d7⟩, ⟨e0, e1, e2, e3, e4, e5, e6, e7⟩, cb⟩ := hSw
          go_simp
        try simp only [Act.put, List.setIfInBounds_toArray, List.set_cons_zero, List.set_cons_succ]
        refine wpAnyH_take (i := 14) (oi := ⟨some _, _, _, _, _, _⟩) (v := (.agg #[.int .i64 k1, .bool b1, .bool n1, .string ⟨g1.toArray⟩, .int .i64 x1, .string ⟨s1.toArray⟩, .slice A1 l1 p1, .slice B1 m1 z1])) rfl (by kernel_rfl) (by kernel_rfl) (by kernel_rfl) (fun _ _ _ h => h) (Or.inl ⟨by rfl, ?_⟩) ht ?_
        · intro W9 hSw
          obtain ⟨⟨c0, c1, c2, c3, c4, c5, c6, c7⟩, ⟨d0, d1, d2, d3, d4, d5, d6, d7⟩, ⟨e0, e1, e2, e3, e4, e5, e6, e7⟩, cb⟩ := hSw
          go_simp
        try simp only [Act.put, List.setIfInBounds_toArray, List.set_cons_zero, List.set_cons_succ]
        refine wpAnyH_take (i := 15) (oi := ⟨some _, _, _, _, _, _⟩) (v := (.agg #[.int .i64 k2, .bool b2, .bool n2, .string ⟨g2.toArray⟩, .int .i64 x2, .string ⟨s2.toArray⟩, .slice A2 l2 p2, .slice B2 m2 z2])) rfl (by kernel_rfl) (by kernel_rfl) (by kernel_rfl) (fun _ _ _ h => h) (Or.inl ⟨by rfl, ?_⟩) ht ?_
        · intro W9 hSw
          obtain ⟨⟨c0, c1, c2, c3, c4, c5, c6, c7⟩, ⟨d0, d1, d2, d3, d4, d5, d6, d7⟩, ⟨e0, e1, e2, e3, e4, e5, e6, e7⟩, cb⟩ := hSw
          go_simp
        try simp only [Act.put, List.setIfInBounds_toArray, List.set_cons_zero, List.set_cons_succ]
        refine wpAnyH_ready (rs := [16]) (by kernel_rfl) (by simp) ?_
        refine AllReadyH.cons (o := ⟨some _, _, _, _, _, _⟩) rfl (fun K hK => ?_) AllReadyH.nil
        go_simp
        refine (HAB.out _ ht.2.2.2).mono ?_
        rintro e6 w6 ⟨rfl, hb6⟩
        have hs : VThree W w1.heap.size w3.heap.size w5.heap.size (.int .i64 k1) (.bool b1) (.bool n1) (.string ⟨g1.toArray⟩) (.int .i64 x1) (.string ⟨s1.toArray⟩) (.slice A1 l1 p1) (.slice B1 m1 z1) (.int .i64 k2) (.bool b2) (.bool n2) (.string ⟨g2.toArray⟩) (.int .i64 x2) (.string ⟨s2.toArray⟩) (.slice A2 l2 p2) (.slice B2 m2 z2) (.int .i64 k3) (.bool b3) (.bool n3) (.string ⟨g3.toArray⟩) (.int .i64 x3) (.string ⟨s3.toArray⟩) (.slice A3 l3 p3) (.slice B3 m3 z3) w6 := VThree.on ht hb6
        clear hb6 ht
        go_wp2_with fail
        refine hK.out _ _ hs (fun ht => ?_)
        clear hK K hs
        try simp only [Act.put, List.setIfInBounds_toArray, List.set_cons_zero, List.set_cons_succ]
        refine wpAnyH_take (i := 17) (oi := ⟨some _, _, _, _, _, _⟩) (v := (.bool true)) rfl (by kernel_rfl) (by kernel_rfl) (by kernel_rfl) (fun _ _ _ h => h) (Or.inl ⟨by rfl, ?_⟩) ht ?_
        · intro W9 hSw
          obtain ⟨⟨c0, c1, c2, c3, c4, c5, c6, c7⟩, ⟨d0, d1, d2, d3, d4, d5, d6, d7⟩, ⟨e0, e1, e2, e3, e4, e5, e6, e7⟩, cb⟩ := hSw
          go_simp
        try simp only [Act.put, List.setIfInBounds_toArray, List.set_cons_zero, List.set_cons_succ]
        refine wpAnyH_take (i := 18) (oi := ⟨some _, _, _, _, _, _⟩) (v := (.agg #[.int .i64 k2, .bool b2, .bool n2, .string ⟨g2.toArray⟩, .int .i64 x2, .string ⟨s2.toArray⟩, .slice A2 l2 p2, .slice B2 m2 z2])) rfl (by kernel_rfl) (by kernel_rfl) (by kernel_rfl) (fun _ _ _ h => h) (Or.inl ⟨by rfl, ?_⟩) ht ?_
        · intro W9 hSw
          obtain ⟨⟨c0, c1, c2, c3, c4, c5, c6, c7⟩, ⟨d0, d1, d2, d3, d4, d5, d6, d7⟩, ⟨e0, e1, e2, e3, e4, e5, e6, e7⟩, cb⟩ := hSw
          go_simp
        try simp only [Act.put, List.setIfInBounds_toArray, List.set_cons_zero, List.set_cons_succ]
        refine wpAnyH_take (i := 19) (oi := ⟨some _, _, _, _, _, _⟩) (v := (.agg #[.int .i64 k3, .bool b3, .bool n3, .string ⟨g3.toArray⟩, .int .i64 x3, .string ⟨s3.toArray⟩, .slice A3 l3 p3, .slice B3 m3 z3])) rfl (by kernel_rfl) (by kernel_rfl) (by kernel_rfl) (fun _ _ _ h => h) (Or.inl ⟨by rfl, ?_⟩) ht ?_
        · intro W9 hSw
          obtain ⟨⟨c0, c1, c2, c3, c4, c5, c6, c7⟩, ⟨d0, d1, d2, d3, d4, d5, d6, d7⟩, ⟨e0, e1, e2, e3, e4, e5, e6, e7⟩, cb⟩ := hSw
          go_simp
        try simp only [Act.put, List.setIfInBounds_toArray, List.set_cons_zero, List.set_cons_succ]
        refine wpAnyH_ready (rs := [20]) (by kernel_rfl) (by simp) ?_
        refine AllReadyH.cons (o := ⟨some _, _, _, _, _, _⟩) rfl (fun K hK => ?_) AllReadyH.nil
        go_simp
        refine (HBC.out _ ht.2.2.2).mono ?_
        rintro e6 w6 ⟨rfl, hb6⟩
        have hs : VThree W w1.heap.size w3.heap.size w5.heap.size (.int .i64 k1) (.bool b1) (.bool n1) (.string ⟨g1.toArray⟩) (.int .i64 x1) (.string ⟨s1.toArray⟩) (.slice A1 l1 p1) (.slice B1 m1 z1) (.int .i64 k2) (.bool b2) (.bool n2) (.string ⟨g2.toArray⟩) (.int .i64 x2) (.string ⟨s2.toArray⟩) (.slice A2 l2 p2) (.slice B2 m2 z2) (.int .i64 k3) (.bool b3) (.bool n3) (.string ⟨g3.toArray⟩) (.int .i64 x3) (.string ⟨s3.toArray⟩) (.slice A3 l3 p3) (.slice B3 m3 z3) w6 := VThree.on ht hb6
        clear hb6 ht
        go_wp2_with fail
        refine hK.out _ _ hs (fun ht => ?_)
        clear hK K hs
        try simp only [Act.put, List.setIfInBounds_toArray, List.set_cons_zero, List.set_cons_succ]
        refine wpAnyH_take (i := 21) (oi := ⟨some _, _, _, _, _, _⟩) (v := (.bool false)) rfl (by kernel_rfl) (by kernel_rfl) (by kernel_rfl) (fun _ _ _ h => h) (Or.inl ⟨by rfl, ?_⟩) ht ?_
        · intro W9 hSw
          obtain ⟨⟨c0, c1, c2, c3, c4, c5, c6, c7⟩, ⟨d0, d1, d2, d3, d4, d5, d6, d7⟩, ⟨e0, e1, e2, e3, e4, e5, e6, e7⟩, cb⟩ := hSw
          go_simp
        try simp only [Act.put, List.setIfInBounds_toArray, List.set_cons_zero, List.set_cons_succ]
        refine wpAnyH_take (i := 22) (oi := ⟨some _, _, _, _, _, _⟩) (v := (.bool false)) rfl (by kernel_rfl) (by kernel_rfl) (by kernel_rfl) (fun _ _ _ h => h) (Or.inl ⟨by rfl, ?_⟩) ht ?_
        · intro W9 hSw
          obtain ⟨⟨c0, c1, c2, c3, c4, c5, c6, c7⟩, ⟨d0, d1, d2, d3, d4, d5, d6, d7⟩, ⟨e0, e1, e2, e3, e4, e5, e6, e7⟩, cb⟩ := hSw
          go_simp
        try simp only [Act.put, List.setIfInBounds_toArray, List.set_cons_zero, List.set_cons_succ]
        refine wpAnyH_take (i := 23) (oi := ⟨some _, _, _, _, _, _⟩) (v := undef) rfl (by kernel_rfl) (by kernel_rfl) (by kernel_rfl) (fun _ _ _ h => h) (Or.inr ⟨by rfl, rfl⟩) ht ?_
        try simp only [Act.put, List.setIfInBounds_toArray, List.set_cons_zero, List.set_cons_succ]
        refine wpAnyH_take (i := 24) (oi := ⟨some _, _, _, _, _, _⟩) (v := undef) rfl (by kernel_rfl) (by kernel_rfl) (by kernel_rfl) (fun _ _ _ h => h) (Or.inr ⟨by rfl, rfl⟩) ht ?_
        try simp only [Act.put, List.setIfInBounds_toArray, List.set_cons_zero, List.set_cons_succ]
        refine wpAnyH_take (i := 25) (oi := ⟨some _, _, _, _, _, _⟩) (v := undef) rfl (by kernel_rfl) (by kernel_rfl) (by kernel_rfl) (fun _ _ _ h => h) (Or.inr ⟨by rfl, rfl⟩) ht ?_
        try simp only [Act.put, List.setIfInBounds_toArray, List.set_cons_zero, List.set_cons_succ]
        refine wpAnyH_take (i := 26) (oi := ⟨some _, _, _, _, _, _⟩) (v := undef) rfl (by kernel_rfl) (by kernel_rfl) (by kernel_rfl) (fun _ _ _ h => h) (Or.inr ⟨by rfl, rfl⟩) ht ?_
        try simp only [Act.put, List.setIfInBounds_toArray, List.set_cons_zero, List.set_cons_succ]
        refine wpAnyH_take (i := 27) (oi := ⟨some _, _, _, _, _, _⟩) (v := (.bool false)) rfl (by kernel_rfl) (by kernel_rfl) (by kernel_rfl) (fun _ _ _ h => h) (Or.inl ⟨by rfl, ?_⟩) ht ?_
        · intro W9 hSw
          obtain ⟨⟨c0, c1, c2, c3, c4, c5, c6, c7⟩, ⟨d0, d1, d2, d3, d4, d5, d6, d7⟩, ⟨e0, e1, e2, e3, e4, e5, e6, e7⟩, cb⟩ := hSw
          go_simp
        try simp only [Act.put, List.setIfInBounds_toArray, List.set_cons_zero, List.set_cons_succ]
        refine wpAnyH_take (i := 28) (oi := ⟨some _, _, _, _, _, _⟩) (v := (.bool false)) rfl (by kernel_rfl) (by kernel_rfl) (by kernel_rfl) (fun _ _ _ h => h) (Or.inl ⟨by rfl, ?_⟩) ht ?_
        · intro W9 hSw
          obtain ⟨⟨c0, c1, c2, c3, c4, c5, c6, c7⟩, ⟨d0, d1, d2, d3, d4, d5, d6, d7⟩, ⟨e0, e1, e2, e3, e4, e5, e6, e7⟩, cb⟩ := hSw
          go_simp
        try simp only [Act.put, List.setIfInBounds_toArray, List.set_cons_zero, List.set_cons_succ]
        refine wpAnyH_done (by kernel_rfl) ?_ _
        go_wp2_with fail
        go_meet
        case rel => exact ⟨rfl, ht⟩
      | true =>
        refine wp_region_held_drew (S := VThree W w1.heap.size w3.heap.size w5.heap.size (.int .i64 k1) (.bool b1) (.bool n1) (.string ⟨g1.toArray⟩) (.int .i64 x1) (.string ⟨s1.toArray⟩) (.slice A1 l1 p1) (.slice B1 m1 z1) (.int .i64 k2) (.bool b2) (.bool n2) (.string ⟨g2.toArray⟩) (.int .i64 x2) (.string ⟨s2.toArray⟩) (.slice A2 l2 p2) (.slice B2 m2 z2) (.int .i64 k3) (.bool b3) (.bool n3) (.string ⟨g3.toArray⟩) (.int .i64 x3) (.string ⟨s3.toArray⟩) (.slice A3 l3 p3) (.slice B3 m3 z3)) (by kernel_rfl) (VThree.on HFIN.out (Below.refl _ _).drew) (fun ht => ?_)
        refine wpAnyH_take (i := 0) (oi := ⟨some _, _, _, _, _, _⟩) (v := (.agg #[.int .i64 k1, .bool b1, .bool n1, .string ⟨g1.toArray⟩, .int .i64 x1, .string ⟨s1.toArray⟩, .slice A1 l1 p1, .slice B1 m1 z1])) rfl (by kernel_rfl) (by kernel_rfl) (by kernel_rfl) (fun _ _ _ h => h) (Or.inl ⟨by rfl, ?_⟩) ht ?_
        · intro W9 hSw
          obtain ⟨⟨c0, c1, c2, c3, c4, c5, c6, c7⟩, ⟨d0, d1, d2, d3, d4, d5, d6, d7⟩, ⟨e0, e1, e2, e3, e4, e5, e6, e7⟩, cb⟩ := hSw
          go_simp
        try simp only [Act.put, List.setIfInBounds_toArray, List.set_cons_zero, List.set_cons_succ]
        refine wpAnyH_take (i := 1) (oi := ⟨some _, _, _, _, _, _⟩) (v := (.agg #[.int .i64 k1, .bool b1, .bool n1, .string ⟨g1.toArray⟩, .int .i64 x1, .string ⟨s1.toArray⟩, .slice A1 l1 p1, .slice B1 m1 z1])) rfl (by kernel_rfl) (by kernel_rfl) (by kernel_rfl) (fun _ _ _ h => h) (Or.inl ⟨by rfl, ?_⟩) ht ?_
        · intro W9 hSw
          obtain ⟨⟨c0, c1, c2, c3, c4, c5, c6, c7⟩, ⟨d0, d1, d2, d3, d4, d5, d6, d7⟩, ⟨e0, e1, e2, e3, e4, e5, e6, e7⟩, cb⟩ := hSw
          go_simp
        try simp only [Act.put, List.setIfInBounds_toArray, List.set_cons_zero, List.set_cons_succ]
        refine wpAnyH_ready (rs := [2]) (by kernel_rfl) (by simp) ?_
        refine AllReadyH.cons (o := ⟨some _, _, _, _, _, _⟩) rfl (fun K hK => ?_) AllReadyH.nil
        go_simp
        refine (HAA.out _ ht.2.2.2).mono ?_
        rintro e6 w6 ⟨rfl, hb6⟩
        have hs : VThree W w1.heap.size w3.heap.size w5.heap.size (.int .i64 k1) (.bool b1) (.bool n1) (.string ⟨g1.toArray⟩) (.int .i64 x1) (.string ⟨s1.toArray⟩) (.slice A1 l1 p1) (.slice B1 m1 z1) (.int .i64 k2) (.bool b2) (.bool n2) (.string ⟨g2.toArray⟩) (.int .i64 x2) (.string ⟨s2.toArray⟩) (.slice A2 l2 p2) (.slice B2 m2 z2) (.int .i64 k3) (.bool b3) (.bool n3) (.string ⟨g3.toArray⟩) (.int .i64 x3) (.string ⟨s3.toArray⟩) (.slice A3 l3 p3) (.slice B3 m3 z3) w6 := VThree.on ht hb6
        clear hb6 ht
        go_wp2_with fail
        refine hK.out _ _ hs (fun ht => ?_)
        clear hK K hs
        try simp only [Act.put, List.setIfInBounds_toArray, List.set_cons_zero, List.set_cons_succ]
        refine wpAnyH_take (i := 3) (oi := ⟨some _, _, _, _, _, _⟩) (v := (.bool false)) rfl (by kernel_rfl) (by kernel_rfl) (by kernel_rfl) (fun _ _ _ h => h) (Or.inl ⟨by rfl, ?_⟩) ht ?_
        · intro W9 hSw
          obtain ⟨⟨c0, c1, c2, c3, c4, c5, c6, c7⟩, ⟨d0, d1, d2, d3, d4, d5, d6, d7⟩, ⟨e0, e1, e2, e3, e4, e5, e6, e7⟩, cb⟩ := hSw
          go_simp
        try simp only [Act.put, List.setIfInBounds_toArray, List.set_cons_zero, List.set_cons_succ]
        refine wpAnyH_take (i := 4) (oi := ⟨some _, _, _, _, _, _⟩) (v := (.bool false)) rfl (by kernel_rfl) (by kernel_rfl) (by kernel_rfl) (fun _ _ _ h => h) (Or.inl ⟨by rfl, ?_⟩) ht ?_
        · intro W9 hSw
          obtain ⟨⟨c0, c1, c2, c3, c4, c5, c6, c7⟩, ⟨d0, d1, d2, d3, d4, d5, d6, d7⟩, ⟨e0, e1, e2, e3, e4, e5, e6, e7⟩, cb⟩ := hSw
          go_simp
        try simp only [Act.put, List.setIfInBounds_toArray, List.set_cons_zero, List.set_cons_succ]
        refine wpAnyH_take (i := 5) (oi := ⟨some _, _, _, _, _, _⟩) (v := (.agg #[.int .i64 k1, .bool b1, .bool n1, .string ⟨g1.toArray⟩, .int .i64 x1, .string ⟨s1.toArray⟩, .slice A1 l1 p1, .slice B1 m1 z1])) rfl (by kernel_rfl) (by kernel_rfl) (by kernel_rfl) (fun _ _ _ h => h) (Or.inl ⟨by rfl, ?_⟩) ht ?_
        · intro W9 hSw
          obtain ⟨⟨c0, c1, c2, c3, c4, c5, c6, c7⟩, ⟨d0, d1, d2, d3, d4, d5, d6, d7⟩, ⟨e0, e1, e2, e3, e4, e5, e6, e7⟩, cb⟩ := hSw
          go_simp
        try simp only [Act.put, List.setIfInBounds_toArray, List.set_cons_zero, List.set_cons_succ]
        refine wpAnyH_take (i := 6) (oi := ⟨some _, _, _, _, _, _⟩) (v := (.agg #[.int .i64 k2, .bool b2, .bool n2, .string ⟨g2.toArray⟩, .int .i64 x2, .string ⟨s2.toArray⟩, .slice A2 l2 p2, .slice B2 m2 z2])) rfl (by kernel_rfl) (by kernel_rfl) (by kernel_rfl) (fun _ _ _ h => h) (Or.inl ⟨by rfl, ?_⟩) ht ?_
        · intro W9 hSw
          obtain ⟨⟨c0, c1, c2, c3, c4, c5, c6, c7⟩, ⟨d0, d1, d2, d3, d4, d5, d6, d7⟩, ⟨e0, e1, e2, e3, e4, e5, e6, e7⟩, cb⟩ := hSw
          go_simp
        try simp only [Act.put, List.setIfInBounds_toArray, List.set_cons_zero, List.set_cons_succ]
        refine wpAnyH_take (i := 8) (oi := ⟨some _, _, _, _, _, _⟩) (v := (.agg #[.int .i64 k2, .bool b2, .bool n2, .string ⟨g2.toArray⟩, .int .i64 x2, .string ⟨s2.toArray⟩, .slice A2 l2 p2, .slice B2 m2 z2])) rfl (by kernel_rfl) (by kernel_rfl) (by kernel_rfl) (fun _ _ _ h => h) (Or.inl ⟨by rfl, ?_⟩) ht ?_
        · intro W9 hSw
          obtain ⟨⟨c0, c1, c2, c3, c4, c5, c6, c7⟩, ⟨d0, d1, d2, d3, d4, d5, d6, d7⟩, ⟨e0, e1, e2, e3, e4, e5, e6, e7⟩, cb⟩ := hSw
          go_simp
        try simp only [Act.put, List.setIfInBounds_toArray, List.set_cons_zero, List.set_cons_succ]
        refine wpAnyH_take (i := 9) (oi := ⟨some _, _, _, _, _, _⟩) (v := (.agg #[.int .i64 k1, .bool b1, .bool n1, .string ⟨g1.toArray⟩, .int .i64 x1, .string ⟨s1.toArray⟩, .slice A1 l1 p1, .slice B1 m1 z1])) rfl (by kernel_rfl) (by kernel_rfl) (by kernel_rfl) (fun _ _ _ h => h) (Or.inl ⟨by rfl, ?_⟩) ht ?_
        · intro W9 hSw
          obtain ⟨⟨c0, c1, c2, c3, c4, c5, c6, c7⟩, ⟨d0, d1, d2, d3, d4, d5, d6, d7⟩, ⟨e0, e1, e2, e3, e4, e5, e6, e7⟩, cb⟩ := hSw
          go_simp
        try simp only [Act.put, List.setIfInBounds_toArray, List.set_cons_zero, List.set_cons_succ]
        refine wpAnyH_ready (rs := [7]) (by kernel_rfl) (by simp) ?_
        refine AllReadyH.cons (o := ⟨some _, _, _, _, _, _⟩) rfl (fun K hK => ?_) AllReadyH.nil
        go_simp
        refine (HAB.out _ ht.2.2.2).mono ?_
        rintro e6 w6 ⟨rfl, hb6⟩
        have hs : VThree W w1.heap.size w3.heap.size w5.heap.size (.int .i64 k1) (.bool b1) (.bool n1) (.string ⟨g1.toArray⟩) (.int .i64 x1) (.string ⟨s1.toArray⟩) (.slice A1 l1 p1) (.slice B1 m1 z1) (.int .i64 k2) (.bool b2) (.bool n2) (.string ⟨g2.toArray⟩) (.int .i64 x2) (.string ⟨s2.toArray⟩) (.slice A2 l2 p2) (.slice B2 m2 z2) (.int .i64 k3) (.bool b3) (.bool n3) (.string ⟨g3.toArray⟩) (.int .i64 x3) (.string ⟨s3.toArray⟩) (.slice A3 l3 p3) (.slice B3 m3 z3) w6 := VThree.on ht hb6
        clear hb6 ht
        go_wp2_with fail
        refine hK.out _ _ hs (fun ht => ?_)
        clear hK K hs
        try simp only [Act.put, List.setIfInBounds_toArray, List.set_cons_zero, List.set_cons_succ]
        refine wpAnyH_ready (rs := [10]) (by kernel_rfl) (by simp) ?_
        refine AllReadyH.cons (o := ⟨some _, _, _, _, _, _⟩) rfl (fun K hK => ?_) AllReadyH.nil
        go_simp
        refine (HBA.out _ ht.2.2.2).mono ?_
        rintro e6 w6 ⟨rfl, hb6⟩
        have hs : VThree W w1.heap.size w3.heap.size w5.heap.size (.int .i64 k1) (.bool b1) (.bool n1) (.string ⟨g1.toArray⟩) (.int .i64 x1) (.string ⟨s1.toArray⟩) (.slice A1 l1 p1) (.slice B1 m1 z1) (.int .i64 k2) (.bool b2) (.bool n2) (.string ⟨g2.toArray⟩) (.int .i64 x2) (.string ⟨s2.toArray⟩) (.slice A2 l2 p2) (.slice B2 m2 z2) (.int .i64 k3) (.bool b3) (.bool n3) (.string ⟨g3.toArray⟩) (.int .i64 x3) (.string ⟨s3.toArray⟩) (.slice A3 l3 p3) (.slice B3 m3 z3) w6 := VThree.on ht hb6
        clear hb6 ht
        go_wp2_with fail
        refine hK.out _ _ hs (fun ht => ?_)
        clear hK K hs
        try simp only [Act.put, List.setIfInBounds_toArray, List.set_cons_zero, List.set_cons_succ]
        refine wpAnyH_take (i := 11) (oi := ⟨some _, _, _, _, _, _⟩) (v := (.bool false)) rfl (by kernel_rfl) (by kernel_rfl) (by kernel_rfl) (fun _ _ _ h => h) (Or.inl ⟨by rfl, ?_⟩) ht ?_
        · intro W9 hSw
          obtain ⟨⟨c0, c1, c2, c3, c4, c5, c6, c7⟩, ⟨d0, d1, d2, d3, d4, d5, d6, d7⟩, ⟨e0, e1, e2, e3, e4, e5, e6, e7⟩, cb⟩ := hSw
          go_simp
        try simp only [Act.put, List.setIfInBounds_toArray, List.set_cons_zero, List.set_cons_succ]
        refine wpAnyH_take (i := 12) (oi := ⟨some _, _, _, _, _, _⟩) (v := (.bool false)) rfl (by kernel_rfl) (by kernel_rfl) (by kernel_rfl) (fun _ _ _ h => h) (Or.inl ⟨by rfl, ?_⟩) ht ?_
        · intro W9 hSw
          obtain ⟨⟨c0, c1, c2, c3, c4, c5, c6, c7⟩, ⟨d0, d1, d2, d3, d4, d5, d6, d7⟩, ⟨e0, e1, e2, e3, e4, e5, e6, e7⟩, cb⟩ := hSw
          go_simp
        try simp only [Act.put, List.setIfInBounds_toArray, List.set_cons_zero, List.set_cons_succ]
        refine wpAnyH_take (i := 13) (oi := ⟨some _, _, _, _, _, _⟩) (v := (.bool false)) rfl (by kernel_rfl) (by kernel_rfl) (by kernel_rfl) (fun _ _ _ h => h) (Or.inl ⟨by rfl, ?_⟩) ht ?_
        · intro W9 hSw
          obtain ⟨⟨c0, c1, c2, c3, c4, c5, c6, c7⟩, ⟨d0, d1, d2, d3, d4, d5, d6, d7⟩, ⟨e0, e1, e2, e3, e4, e5, e6, e7⟩, cb⟩ := hSw
          go_simp
        try simp only [Act.put, List.setIfInBounds_toArray, List.set_cons_zero, List.set_cons_succ]
        refine wpAnyH_take (i := 14) (oi := ⟨some _, _, _, _, _, _⟩) (v := (.agg #[.int .i64 k1, .bool b1, .bool n1, .string ⟨g1.toArray⟩, .int .i64 x1, .string ⟨s1.toArray⟩, .slice A1 l1 p1, .slice B1 m1 z1])) rfl (by kernel_rfl) (by kernel_rfl) (by kernel_rfl) (fun _ _ _ h => h) (Or.inl ⟨by rfl, ?_⟩) ht ?_
        · intro W9 hSw
          obtain ⟨⟨c0, c1, c2, c3, c4, c5, c6, c7⟩, ⟨d0, d1, d2, d3, d4, d5, d6, d7⟩, ⟨e0, e1, e2, e3, e4, e5, e6, e7⟩, cb⟩ := hSw
          go_simp
        try simp only [Act.put, List.setIfInBounds_toArray, List.set_cons_zero, List.set_cons_succ]
        refine wpAnyH_take (i := 15) (oi := ⟨some _, _, _, _, _, _⟩) (v := (.agg #[.int .i64 k2, .bool b2, .bool n2, .string ⟨g2.toArray⟩, .int .i64 x2, .string ⟨s2.toArray⟩, .slice A2 l2 p2, .slice B2 m2 z2])) rfl (by kernel_rfl) (by kernel_rfl) (by kernel_rfl) (fun _ _ _ h => h) (Or.inl ⟨by rfl, ?_⟩) ht ?_
        · intro W9 hSw
          obtain ⟨⟨c0, c1, c2, c3, c4, c5, c6, c7⟩, ⟨d0, d1, d2, d3, d4, d5, d6, d7⟩, ⟨e0, e1, e2, e3, e4, e5, e6, e7⟩, cb⟩ := hSw
          go_simp
        try simp only [Act.put, List.setIfInBounds_toArray, List.set_cons_zero, List.set_cons_succ]
        refine wpAnyH_ready (rs := [16]) (by kernel_rfl) (by simp) ?_
        refine AllReadyH.cons (o := ⟨some _, _, _, _, _, _⟩) rfl (fun K hK => ?_) AllReadyH.nil
        go_simp
        refine (HAB.out _ ht.2.2.2).mono ?_
        rintro e6 w6 ⟨rfl, hb6⟩
        have hs : VThree W w1.heap.size w3.heap.size w5.heap.size (.int .i64 k1) (.bool b1) (.bool n1) (.string ⟨g1.toArray⟩) (.int .i64 x1) (.string ⟨s1.toArray⟩) (.slice A1 l1 p1) (.slice B1 m1 z1) (.int .i64 k2) (.bool b2) (.bool n2) (.string ⟨g2.toArray⟩) (.int .i64 x2) (.string ⟨s2.toArray⟩) (.slice A2 l2 p2) (.slice B2 m2 z2) (.int .i64 k3) (.bool b3) (.bool n3) (.string ⟨g3.toArray⟩) (.int .i64 x3) (.string ⟨s3.toArray⟩) (.slice A3 l3 p3) (.slice B3 m3 z3) w6 := VThree.on ht hb6
        clear hb6 ht
        go_wp2_with fail
        refine hK.out _ _ hs (fun ht => ?_)
        clear hK K hs
        try simp only [Act.put, List.setIfInBounds_toArray, List.set_cons_zero, List.set_cons_succ]
        refine wpAnyH_take (i := 17) (oi := ⟨some _, _, _, _, _, _⟩) (v := (.bool true)) rfl (by kernel_rfl) (by kernel_rfl) (by kernel_rfl) (fun _ _ _ h => h) (Or.inl ⟨by rfl, ?_⟩) ht ?_
        · intro W9 hSw
          obtain ⟨⟨c0, c1, c2, c3, c4, c5, c6, c7⟩, ⟨d0, d1, d2, d3, d4, d5, d6, d7⟩, ⟨e0, e1, e2, e3, e4, e5, e6, e7⟩, cb⟩ := hSw
          go_simp
        try simp only [Act.put, List.setIfInBounds_toArray, List.set_cons_zero, List.set_cons_succ]
        refine wpAnyH_take (i := 18) (oi := ⟨some _, _, _, _, _, _⟩) (v := (.agg #[.int .i64 k2, .bool b2, .bool n2, .string ⟨g2.toArray⟩, .int .i64 x2, .string ⟨s2.toArray⟩, .slice A2 l2 p2, .slice B2 m2 z2])) rfl (by kernel_rfl) (by kernel_rfl) (by kernel_rfl) (fun _ _ _ h => h) (Or.inl ⟨by rfl, ?_⟩) ht ?_
        · intro W9 hSw
          obtain ⟨⟨c0, c1, c2, c3, c4, c5, c6, c7⟩, ⟨d0, d1, d2, d3, d4, d5, d6, d7⟩, ⟨e0, e1, e2, e3, e4, e5, e6, e7⟩, cb⟩ := hSw
          go_simp
        try simp only [Act.put, List.setIfInBounds_toArray, List.set_cons_zero, List.set_cons_succ]
        refine wpAnyH_take (i := 19) (oi := ⟨some _, _, _, _, _, _⟩) (v := (.agg #[.int .i64 k3, .bool b3, .bool n3, .string ⟨g3.toArray⟩, .int .i64 x3, .string ⟨s3.toArray⟩, .slice A3 l3 p3, .slice B3 m3 z3])) rfl (by kernel_rfl) (by kernel_rfl) (by kernel_rfl) (fun _ _ _ h => h) (Or.inl ⟨by rfl, ?_⟩) ht ?_
        · intro W9 hSw
          obtain ⟨⟨c0, c1, c2, c3, c4, c5, c6, c7⟩, ⟨d0, d1, d2, d3, d4, d5, d6, d7⟩, ⟨e0, e1, e2, e3, e4, e5, e6, e7⟩, cb⟩ := hSw
          go_simp
        try simp only [Act.put, List.setIfInBounds_toArray, List.set_cons_zero, List.set_cons_succ]
        refine wpAnyH_ready (rs := [20]) (by kernel_rfl) (by simp) ?_
        refine AllReadyH.cons (o := ⟨some _, _, _, _, _, _⟩) rfl (fun K hK => ?_) AllReadyH.nil
        go_simp
        refine (HBC.out _ ht.2.2.2).mono ?_
        rintro e6 w6 ⟨rfl, hb6⟩
        have hs : VThree W w1.heap.size w3.heap.size w5.heap.size (.int .i64 k1) (.bool b1) (.bool n1) (.string ⟨g1.toArray⟩) (.int .i64 x1) (.string ⟨s1.toArray⟩) (.slice A1 l1 p1) (.slice B1 m1 z1) (.int .i64 k2) (.bool b2) (.bool n2) (.string ⟨g2.toArray⟩) (.int .i64 x2) (.string ⟨s2.toArray⟩) (.slice A2 l2 p2) (.slice B2 m2 z2) (.int .i64 k3) (.bool b3) (.bool n3) (.string ⟨g3.toArray⟩) (.int .i64 x3) (.string ⟨s3.toArray⟩) (.slice A3 l3 p3) (.slice B3 m3 z3) w6 := VThree.on ht hb6
        clear hb6 ht
        go_wp2_with fail
        refine hK.out _ _ hs (fun ht => ?_)
        clear hK K hs
        try simp only [Act.put, List.setIfInBounds_toArray, List.set_cons_zero, List.set_cons_succ]
        refine wpAnyH_take (i := 21) (oi := ⟨some _, _, _, _, _, _⟩) (v := (.bool true)) rfl (by kernel_rfl) (by kernel_rfl) (by kernel_rfl) (fun _ _ _ h => h) (Or.inl ⟨by rfl, ?_⟩) ht ?_
        · intro W9 hSw
          obtain ⟨⟨c0, c1, c2, c3, c4, c5, c6, c7⟩, ⟨d0, d1, d2, d3, d4, d5, d6, d7⟩, ⟨e0, e1, e2, e3, e4, e5, e6, e7⟩, cb⟩ := hSw
          go_simp
        try simp only [Act.put, List.setIfInBounds_toArray, List.set_cons_zero, List.set_cons_succ]
        refine wpAnyH_take (i := 22) (oi := ⟨some _, _, _, _, _, _⟩) (v := (.bool true)) rfl (by kernel_rfl) (by kernel_rfl) (by kernel_rfl) (fun _ _ _ h => h) (Or.inl ⟨by rfl, ?_⟩) ht ?_
        · intro W9 hSw
          obtain ⟨⟨c0, c1, c2, c3, c4, c5, c6, c7⟩, ⟨d0, d1, d2, d3, d4, d5, d6, d7⟩, ⟨e0, e1, e2, e3, e4, e5, e6, e7⟩, cb⟩ := hSw
          go_simp
        try simp only [Act.put, List.setIfInBounds_toArray, List.set_cons_zero, List.set_cons_succ]
        refine wpAnyH_take (i := 23) (oi := ⟨some _, _, _, _, _, _⟩) (v := (.agg #[.int .i64 k1, .bool b1, .bool n1, .string ⟨g1.toArray⟩, .int .i64 x1, .string ⟨s1.toArray⟩, .slice A1 l1 p1, .slice B1 m1 z1])) rfl (by kernel_rfl) (by kernel_rfl) (by kernel_rfl) (fun _ _ _ h => h) (Or.inl ⟨by rfl, ?_⟩) ht ?_
        · intro W9 hSw
          obtain ⟨⟨c0, c1, c2, c3, c4, c5, c6, c7⟩, ⟨d0, d1, d2, d3, d4, d5, d6, d7⟩, ⟨e0, e1, e2, e3, e4, e5, e6, e7⟩, cb⟩ := hSw
          go_simp
        try simp only [Act.put, List.setIfInBounds_toArray, List.set_cons_zero, List.set_cons_succ]
        refine wpAnyH_take (i := 24) (oi := ⟨some _, _, _, _, _, _⟩) (v := (.agg #[.int .i64 k3, .bool b3, .bool n3, .string ⟨g3.toArray⟩, .int .i64 x3, .string ⟨s3.toArray⟩, .slice A3 l3 p3, .slice B3 m3 z3])) rfl (by kernel_rfl) (by kernel_rfl) (by kernel_rfl) (fun _ _ _ h => h) (Or.inl ⟨by rfl, ?_⟩) ht ?_
        · intro W9 hSw
          obtain ⟨⟨c0, c1, c2, c3, c4, c5, c6, c7⟩, ⟨d0, d1, d2, d3, d4, d5, d6, d7⟩, ⟨e0, e1, e2, e3, e4, e5, e6, e7⟩, cb⟩ := hSw
          go_simp
        try simp only [Act.put, List.setIfInBounds_toArray, List.set_cons_zero, List.set_cons_succ]
        refine wpAnyH_ready (rs := [25]) (by kernel_rfl) (by simp) ?_
        refine AllReadyH.cons (o := ⟨some _, _, _, _, _, _⟩) rfl (fun K hK => ?_) AllReadyH.nil
        go_simp
        refine (HAC.out _ ht.2.2.2).mono ?_
        rintro e6 w6 ⟨rfl, hb6⟩
        have hs : VThree W w1.heap.size w3.heap.size w5.heap.size (.int .i64 k1) (.bool b1) (.bool n1) (.string ⟨g1.toArray⟩) (.int .i64 x1) (.string ⟨s1.toArray⟩) (.slice A1 l1 p1) (.slice B1 m1 z1) (.int .i64 k2) (.bool b2) (.bool n2) (.string ⟨g2.toArray⟩) (.int .i64 x2) (.string ⟨s2.toArray⟩) (.slice A2 l2 p2) (.slice B2 m2 z2) (.int .i64 k3) (.bool b3) (.bool n3) (.string ⟨g3.toArray⟩) (.int .i64 x3) (.string ⟨s3.toArray⟩) (.slice A3 l3 p3) (.slice B3 m3 z3) w6 := VThree.on ht hb6
        clear hb6 ht
        go_wp2_with fail
        refine hK.out _ _ hs (fun ht => ?_)
        clear hK K hs
        try simp only [Act.put, List.setIfInBounds_toArray, List.set_cons_zero, List.set_cons_succ]
        refine wpAnyH_take (i := 26) (oi := ⟨some _, _, _, _, _, _⟩) (v := (.bool false)) rfl (by kernel_rfl) (by kernel_rfl) (by kernel_rfl) (fun _ _ _ h => h) (Or.inl ⟨by rfl, ?_⟩) ht ?_
        · intro W9 hSw
          obtain ⟨⟨c0, c1, c2, c3, c4, c5, c6, c7⟩, ⟨d0, d1, d2, d3, d4, d5, d6, d7⟩, ⟨e0, e1, e2, e3, e4, e5, e6, e7⟩, cb⟩ := hSw
          go_simp
        try simp only [Act.put, List.setIfInBounds_toArray, List.set_cons_zero, List.set_cons_succ]
        refine wpAnyH_take (i := 27) (oi := ⟨some _, _, _, _, _, _⟩) (v := (.bool false)) rfl (by kernel_rfl) (by kernel_rfl) (by kernel_rfl) (fun _ _ _ h => h) (Or.inl ⟨by rfl, ?_⟩) ht ?_
        · intro W9 hSw
          obtain ⟨⟨c0, c1, c2, c3, c4, c5, c6, c7⟩, ⟨d0, d1, d2, d3, d4, d5, d6, d7⟩, ⟨e0, e1, e2, e3, e4, e5, e6, e7⟩, cb⟩ := hSw
          go_simp
        try simp only [Act.put, List.setIfInBounds_toArray, List.set_cons_zero, List.set_cons_succ]
        refine wpAnyH_take (i := 28) (oi := ⟨some _, _, _, _, _, _⟩) (v := (.bool false)) rfl (by kernel_rfl) (by kernel_rfl) (by kernel_rfl) (fun _ _ _ h => h) (Or.inl ⟨by rfl, ?_⟩) ht ?_
        · intro W9 hSw
          obtain ⟨⟨c0, c1, c2, c3, c4, c5, c6, c7⟩, ⟨d0, d1, d2, d3, d4, d5, d6, d7⟩, ⟨e0, e1, e2, e3, e4, e5, e6, e7⟩, cb⟩ := hSw
          go_simp
        try simp only [Act.put, List.setIfInBounds_toArray, List.set_cons_zero, List.set_cons_succ]
        refine wpAnyH_done (by kernel_rfl) ?_ _
        go_wp2_with fail
        go_meet
        case rel => exact ⟨rfl, ht⟩
  case rest =>
    obtain ⟨rfl, h3⟩ := hcut
    have H3 := Lib.hid h3
    clear h3 HFIN HBA HBC HAA HR
    go_upto_region 9 with (fail)
    go_cut [89] from 73 to 90 (fun x wc => x = .bool false ∧ VThree W w1.heap.size w3.heap.size w5.heap.size (.int .i64 k1) (.bool b1) (.bool n1) (.string ⟨g1.toArray⟩) (.int .i64 x1) (.string ⟨s1.toArray⟩) (.slice A1 l1 p1) (.slice B1 m1 z1) (.int .i64 k2) (.bool b2) (.bool n2) (.string ⟨g2.toArray⟩) (.int .i64 x2) (.string ⟨s2.toArray⟩) (.slice A2 l2 p2) (.slice B2 m2 z2) (.int .i64 k3) (.bool b3) (.bool n3) (.string ⟨g3.toArray⟩) (.int .i64 x3) (.string ⟨s3.toArray⟩) (.slice A3 l3 p3) (.slice B3 m3 z3) wc)
    case first =>
      cases q with
      | false =>
        refine wp_region_held_drew (S := VThree W w1.heap.size w3.heap.size w5.heap.size (.int .i64 k1) (.bool b1) (.bool n1) (.string ⟨g1.toArray⟩) (.int .i64 x1) (.string ⟨s1.toArray⟩) (.slice A1 l1 p1) (.slice B1 m1 z1) (.int .i64 k2) (.bool b2) (.bool n2) (.string ⟨g2.toArray⟩) (.int .i64 x2) (.string ⟨s2.toArray⟩) (.slice A2 l2 p2) (.slice B2 m2 z2) (.int .i64 k3) (.bool b3) (.bool n3) (.string ⟨g3.toArray⟩) (.int .i64 x3) (.string ⟨s3.toArray⟩) (.slice A3 l3 p3) (.slice B3 m3 z3)) (by kernel_rfl) (VThree.on H3.out (Below.refl _ _).drew) (fun ht => ?_)
        refine wpAnyH_take (i := 0) (oi := ⟨some _, _, _, _, _, _⟩) (v := (.agg #[.int .i64 k1, .bool b1, .bool n1, .string ⟨g1.toArray⟩, .int .i64 x1, .string ⟨s1.toArray⟩, .slice A1 l1 p1, .slice B1 m1 z1])) rfl (by kernel_rfl) (by kernel_rfl) (by kernel_rfl) (fun _ _ _ h => h) (Or.inl ⟨by rfl, ?_⟩) ht ?_
        · intro W9 hSw
          obtain ⟨⟨c0, c1, c2, c3, c4, c5, c6, c7⟩, ⟨d0, d1, d2, d3, d4, d5, d6, d7⟩, ⟨e0, e1, e2, e3, e4, e5, e6, e7⟩, cb⟩ := hSw
          go_simp
        try simp only [Act.put, List.setIfInBounds_toArray, List.set_cons_zero, List.set_cons_succ]
        refine wpAnyH_take (i := 1) (oi := ⟨some _, _, _, _, _, _⟩) (v := (.agg #[.int .i64 k2, .bool b2, .bool n2, .string ⟨g2.toArray⟩, .int .i64 x2, .string ⟨s2.toArray⟩, .slice A2 l2 p2, .slice B2 m2 z2])) rfl (by kernel_rfl) (by kernel_rfl) (by kernel_rfl) (fun _ _ _ h => h) (Or.inl ⟨by rfl, ?_⟩) ht ?_
        · intro W9 hSw
          obtain ⟨⟨c0, c1, c2, c3, c4, c5, c6, c7⟩, ⟨d0, d1, d2, d3, d4, d5, d6, d7⟩, ⟨e0, e1, e2, e3, e4, e5, e6, e7⟩, cb⟩ := hSw
          go_simp
        try simp only [Act.put, List.setIfInBounds_toArray, List.set_cons_zero, List.set_cons_succ]
        refine wpAnyH_ready (rs := [2]) (by kernel_rfl) (by simp) ?_
        refine AllReadyH.cons (o := ⟨some _, _, _, _, _, _⟩) rfl (fun K hK => ?_) AllReadyH.nil
        go_simp
        refine (HAB.out _ ht.2.2.2).mono ?_
        rintro e6 w6 ⟨rfl, hb6⟩
        have hs : VThree W w1.heap.size w3.heap.size w5.heap.size (.int .i64 k1) (.bool b1) (.bool n1) (.string ⟨g1.toArray⟩) (.int .i64 x1) (.string ⟨s1.toArray⟩) (.slice A1 l1 p1) (.slice B1 m1 z1) (.int .i64 k2) (.bool b2) (.bool n2) (.string ⟨g2.toArray⟩) (.int .i64 x2) (.string ⟨s2.toArray⟩) (.slice A2 l2 p2) (.slice B2 m2 z2) (.int .i64 k3) (.bool b3) (.bool n3) (.string ⟨g3.toArray⟩) (.int .i64 x3) (.string ⟨s3.toArray⟩) (.slice A3 l3 p3) (.slice B3 m3 z3) w6 := VThree.on ht hb6
        clear hb6 ht
        go_wp2_with fail
        refine hK.out _ _ hs (fun ht => ?_)
        clear hK K hs
        try simp only [Act.put, List.setIfInBounds_toArray, List.set_cons_zero, List.set_cons_succ]
        refine wpAnyH_take (i := 3) (oi := ⟨some _, _, _, _, _, _⟩) (v := (.bool false)) rfl (by kernel_rfl) (by kernel_rfl) (by kernel_rfl) (fun _ _ _ h => h) (Or.inl ⟨by rfl, ?_⟩) ht ?_
        · intro W9 hSw
          obtain ⟨⟨c0, c1, c2, c3, c4, c5, c6, c7⟩, ⟨d0, d1, d2, d3, d4, d5, d6, d7⟩, ⟨e0, e1, e2, e3, e4, e5, e6, e7⟩, cb⟩ := hSw
          go_simp
        try simp only [Act.put, List.setIfInBounds_toArray, List.set_cons_zero, List.set_cons_succ]
        refine wpAnyH_take (i := 4) (oi := ⟨some _, _, _, _, _, _⟩) (v := undef) rfl (by kernel_rfl) (by kernel_rfl) (by kernel_rfl) (fun _ _ _ h => h) (Or.inr ⟨by rfl, rfl⟩) ht ?_
        try simp only [Act.put, List.setIfInBounds_toArray, List.set_cons_zero, List.set_cons_succ]
        refine wpAnyH_take (i := 5) (oi := ⟨some _, _, _, _, _, _⟩) (v := undef) rfl (by kernel_rfl) (by kernel_rfl) (by kernel_rfl) (fun _ _ _ h => h) (Or.inr ⟨by rfl, rfl⟩) ht ?_
        try simp only [Act.put, List.setIfInBounds_toArray, List.set_cons_zero, List.set_cons_succ]
        refine wpAnyH_take (i := 6) (oi := ⟨some _, _, _, _, _, _⟩) (v := undef) rfl (by kernel_rfl) (by kernel_rfl) (by kernel_rfl) (fun _ _ _ h => h) (Or.inr ⟨by rfl, rfl⟩) ht ?_
        try simp only [Act.put, List.setIfInBounds_toArray, List.set_cons_zero, List.set_cons_succ]
        refine wpAnyH_take (i := 7) (oi := ⟨some _, _, _, _, _, _⟩) (v := undef) rfl (by kernel_rfl) (by kernel_rfl) (by kernel_rfl) (fun _ _ _ h => h) (Or.inr ⟨by rfl, rfl⟩) ht ?_
        try simp only [Act.put, List.setIfInBounds_toArray, List.set_cons_zero, List.set_cons_succ]
        refine wpAnyH_take (i := 8) (oi := ⟨some _, _, _, _, _, _⟩) (v := undef) rfl (by kernel_rfl) (by kernel_rfl) (by kernel_rfl) (fun _ _ _ h => h) (Or.inr ⟨by rfl, rfl⟩) ht ?_
        try simp only [Act.put, List.setIfInBounds_toArray, List.set_cons_zero, List.set_cons_succ]
        refine wpAnyH_take (i := 9) (oi := ⟨some _, _, _, _, _, _⟩) (v := undef) rfl (by kernel_rfl) (by kernel_rfl) (by kernel_rfl) (fun _ _ _ h => h) (Or.inr ⟨by rfl, rfl⟩) ht ?_
        try simp only [Act.put, List.setIfInBounds_toArray, List.set_cons_zero, List.set_cons_succ]
        refine wpAnyH_take (i := 10) (oi := ⟨some _, _, _, _, _, _⟩) (v := undef) rfl (by kernel_rfl) (by kernel_rfl) (by kernel_rfl) (fun _ _ _ h => h) (Or.inr ⟨by rfl, rfl⟩) ht ?_
        try simp only [Act.put, List.setIfInBounds_toArray, List.set_cons_zero, List.set_cons_succ]
        refine wpAnyH_take (i := 11) (oi := ⟨some _, _, _, _, _, _⟩) (v := undef) rfl (by kernel_rfl) (by kernel_rfl) (by kernel_rfl) (fun _ _ _ h => h) (Or.inr ⟨by rfl, rfl⟩) ht ?_
        try simp only [Act.put, List.setIfInBounds_toArray, List.set_cons_zero, List.set_cons_succ]
        refine wpAnyH_take (i := 12) (oi := ⟨some _, _, _, _, _, _⟩) (v := undef) rfl (by kernel_rfl) (by kernel_rfl) (by kernel_rfl) (fun _ _ _ h => h) (Or.inr ⟨by rfl, rfl⟩) ht ?_
        try simp only [Act.put, List.setIfInBounds_toArray, List.set_cons_zero, List.set_cons_succ]
        refine wpAnyH_take (i := 13) (oi := ⟨some _, _, _, _, _, _⟩) (v := undef) rfl (by kernel_rfl) (by kernel_rfl) (by kernel_rfl) (fun _ _ _ h => h) (Or.inr ⟨by rfl, rfl⟩) ht ?_
        try simp only [Act.put, List.setIfInBounds_toArray, List.set_cons_zero, List.set_cons_succ]
        refine wpAnyH_take (i := 14) (oi := ⟨some _, _, _, _, _, _⟩) (v := undef) rfl (by kernel_rfl) (by kernel_rfl) (by kernel_rfl) (fun _ _ _ h => h) (Or.inr ⟨by rfl, rfl⟩) ht ?_
        try simp only [Act.put, List.setIfInBounds_toArray, List.set_cons_zero, List.set_cons_succ]
        refine wpAnyH_take (i := 15) (oi := ⟨some _, _, _, _, _, _⟩) (v := undef) rfl (by kernel_rfl) (by kernel_rfl) (by kernel_rfl) (fun _ _ _ h => h) (Or.inr ⟨by rfl, rfl⟩) ht ?_
        try simp only [Act.put, List.setIfInBounds_toArray, List.set_cons_zero, List.set_cons_succ]
        refine wpAnyH_take (i := 16) (oi := ⟨some _, _, _, _, _, _⟩) (v := (.bool false)) rfl (by kernel_rfl) (by kernel_rfl) (by kernel_rfl) (fun _ _ _ h => h) (Or.inl ⟨by rfl, ?_⟩) ht ?_
        · intro W9 hSw
          obtain ⟨⟨c0, c1, c2, c3, c4, c5, c6, c7⟩, ⟨d0, d1, d2, d3, d4, d5, d6, d7⟩, ⟨e0, e1, e2, e3, e4, e5, e6, e7⟩, cb⟩ := hSw
          go_simp
        try simp only [Act.put, List.setIfInBounds_toArray, List.set_cons_zero, List.set_cons_succ]
        refine wpAnyH_done (by kernel_rfl) ?_ _
        go_wp2_with fail
        go_meet
        case rel => exact ⟨rfl, ht⟩
      | true =>
        have he := (same_iff v1 v2).1 HQ.out
        have HSA := Lib.hid (size_on (by have := HF1.out.2.1; omega) HN13.out (show v1.size = v1.size from rfl))
        have HSB := Lib.hid (size_on (by have := HF2.out.2.1; omega) HN23.out (show v2.size = v1.size by rw [he]))
        have HDA := Lib.hid (depth_on (by have := HF1.out.2.2.2.1; omega) HN13.out (show v1.depth = v1.depth from rfl))
        have HDB := Lib.hid (depth_on (by have := HF2.out.2.2.2.1; omega) HN23.out (show v2.depth = v1.depth by rw [he]))
        clear he
        refine wp_region_held_drew (S := VThree W w1.heap.size w3.heap.size w5.heap.size (.int .i64 k1) (.bool b1) (.bool n1) (.string ⟨g1.toArray⟩) (.int .i64 x1) (.string ⟨s1.toArray⟩) (.slice A1 l1 p1) (.slice B1 m1 z1) (.int .i64 k2) (.bool b2) (.bool n2) (.string ⟨g2.toArray⟩) (.int .i64 x2) (.string ⟨s2.toArray⟩) (.slice A2 l2 p2) (.slice B2 m2 z2) (.int .i64 k3) (.bool b3) (.bool n3) (.string ⟨g3.toArray⟩) (.int .i64 x3) (.string ⟨s3.toArray⟩) (.slice A3 l3 p3) (.slice B3 m3 z3)) (by kernel_rfl) (VThree.on H3.out (Below.refl _ _).drew) (fun ht => ?_)
        refine wpAnyH_take (i := 0) (oi := ⟨some _, _, _, _, _, _⟩) (v := (.agg #[.int .i64 k1, .bool b1, .bool n1, .string ⟨g1.toArray⟩, .int .i64 x1, .string ⟨s1.toArray⟩, .slice A1 l1 p1, .slice B1 m1 z1])) rfl (by kernel_rfl) (by kernel_rfl) (by kernel_rfl) (fun _ _ _ h => h) (Or.inl ⟨by rfl, ?_⟩) ht ?_
        · intro W9 hSw
          obtain ⟨⟨c0, c1, c2, c3, c4, c5, c6, c7⟩, ⟨d0, d1, d2, d3, d4, d5, d6, d7⟩, ⟨e0, e1, e2, e3, e4, e5, e6, e7⟩, cb⟩ := hSw
          go_simp
        try simp only [Act.put, List.setIfInBounds_toArray, List.set_cons_zero, List.set_cons_succ]
        refine wpAnyH_take (i := 1) (oi := ⟨some _, _, _, _, _, _⟩) (v := (.agg #[.int .i64 k2, .bool b2, .bool n2, .string ⟨g2.toArray⟩, .int .i64 x2, .string ⟨s2.toArray⟩, .slice A2 l2 p2, .slice B2 m2 z2])) rfl (by kernel_rfl) (by kernel_rfl) (by kernel_rfl) (fun _ _ _ h => h) (Or.inl ⟨by rfl, ?_⟩) ht ?_
        · intro W9 hSw
          obtain ⟨⟨c0, c1, c2, c3, c4, c5, c6, c7⟩, ⟨d0, d1, d2, d3, d4, d5, d6, d7⟩, ⟨e0, e1, e2, e3, e4, e5, e6, e7⟩, cb⟩ := hSw
          go_simp
        try simp only [Act.put, List.setIfInBounds_toArray, List.set_cons_zero, List.set_cons_succ]
        refine wpAnyH_ready (rs := [2]) (by kernel_rfl) (by simp) ?_
        refine AllReadyH.cons (o := ⟨some _, _, _, _, _, _⟩) rfl (fun K hK => ?_) AllReadyH.nil
        go_simp
        refine (HAB.out _ ht.2.2.2).mono ?_
        rintro e6 w6 ⟨rfl, hb6⟩
        have hs : VThree W w1.heap.size w3.heap.size w5.heap.size (.int .i64 k1) (.bool b1) (.bool n1) (.string ⟨g1.toArray⟩) (.int .i64 x1) (.string ⟨s1.toArray⟩) (.slice A1 l1 p1) (.slice B1 m1 z1) (.int .i64 k2) (.bool b2) (.bool n2) (.string ⟨g2.toArray⟩) (.int .i64 x2) (.string ⟨s2.toArray⟩) (.slice A2 l2 p2) (.slice B2 m2 z2) (.int .i64 k3) (.bool b3) (.bool n3) (.string ⟨g3.toArray⟩) (.int .i64 x3) (.string ⟨s3.toArray⟩) (.slice A3 l3 p3) (.slice B3 m3 z3) w6 := VThree.on ht hb6
        clear hb6 ht
        go_wp2_with fail
        refine hK.out _ _ hs (fun ht => ?_)
        clear hK K hs
        try simp only [Act.put, List.setIfInBounds_toArray, List.set_cons_zero, List.set_cons_succ]
        refine wpAnyH_take (i := 3) (oi := ⟨some _, _, _, _, _, _⟩) (v := (.bool true)) rfl (by kernel_rfl) (by kernel_rfl) (by kernel_rfl) (fun _ _ _ h => h) (Or.inl ⟨by rfl, ?_⟩) ht ?_
        · intro W9 hSw
          obtain ⟨⟨c0, c1, c2, c3, c4, c5, c6, c7⟩, ⟨d0, d1, d2, d3, d4, d5, d6, d7⟩, ⟨e0, e1, e2, e3, e4, e5, e6, e7⟩, cb⟩ := hSw
          go_simp
        try simp only [Act.put, List.setIfInBounds_toArray, List.set_cons_zero, List.set_cons_succ]
        refine wpAnyH_take (i := 4) (oi := ⟨some _, _, _, _, _, _⟩) (v := (.agg #[.int .i64 k1, .bool b1, .bool n1, .string ⟨g1.toArray⟩, .int .i64 x1, .string ⟨s1.toArray⟩, .slice A1 l1 p1, .slice B1 m1 z1])) rfl (by kernel_rfl) (by kernel_rfl) (by kernel_rfl) (fun _ _ _ h => h) (Or.inl ⟨by rfl, ?_⟩) ht ?_
        · intro W9 hSw
          obtain ⟨⟨c0, c1, c2, c3, c4, c5, c6, c7⟩, ⟨d0, d1, d2, d3, d4, d5, d6, d7⟩, ⟨e0, e1, e2, e3, e4, e5, e6, e7⟩, cb⟩ := hSw
          go_simp
        try simp only [Act.put, List.setIfInBounds_toArray, List.set_cons_zero, List.set_cons_succ]
        refine wpAnyH_take (i := 6) (oi := ⟨some _, _, _, _, _, _⟩) (v := (.agg #[.int .i64 k2, .bool b2, .bool n2, .string ⟨g2.toArray⟩, .int .i64 x2, .string ⟨s2.toArray⟩, .slice A2 l2 p2, .slice B2 m2 z2])) rfl (by kernel_rfl) (by kernel_rfl) (by kernel_rfl) (fun _ _ _ h => h) (Or.inl ⟨by rfl, ?_⟩) ht ?_
        · intro W9 hSw
          obtain ⟨⟨c0, c1, c2, c3, c4, c5, c6, c7⟩, ⟨d0, d1, d2, d3, d4, d5, d6, d7⟩, ⟨e0, e1, e2, e3, e4, e5, e6, e7⟩, cb⟩ := hSw
          go_simp
        try simp only [Act.put, List.setIfInBounds_toArray, List.set_cons_zero, List.set_cons_succ]
        refine wpAnyH_ready (rs := [5]) (by kernel_rfl) (by simp) ?_
        refine AllReadyH.cons (o := ⟨some _, _, _, _, _, _⟩) rfl (fun K hK => ?_) AllReadyH.nil
        go_simp
        refine (HSA.out _ ht.2.2.2).mono ?_
        rintro e6 w6 ⟨rfl, hb6⟩
        have hs : VThree W w1.heap.size w3.heap.size w5.heap.size (.int .i64 k1) (.bool b1) (.bool n1) (.string ⟨g1.toArray⟩) (.int .i64 x1) (.string ⟨s1.toArray⟩) (.slice A1 l1 p1) (.slice B1 m1 z1) (.int .i64 k2) (.bool b2) (.bool n2) (.string ⟨g2.toArray⟩) (.int .i64 x2) (.string ⟨s2.toArray⟩) (.slice A2 l2 p2) (.slice B2 m2 z2) (.int .i64 k3) (.bool b3) (.bool n3) (.string ⟨g3.toArray⟩) (.int .i64 x3) (.string ⟨s3.toArray⟩) (.slice A3 l3 p3) (.slice B3 m3 z3) w6 := VThree.on ht hb6
        clear hb6 ht
        go_wp2_with fail
        refine hK.out _ _ hs (fun ht => ?_)
        clear hK K hs
        try simp only [Act.put, List.setIfInBounds_toArray, List.set_cons_zero, List.set_cons_succ]
        refine wpAnyH_ready (rs := [7]) (by kernel_rfl) (by simp) ?_
        refine AllReadyH.cons (o := ⟨some _, _, _, _, _, _⟩) rfl (fun K hK => ?_) AllReadyH.nil
        go_simp
        refine (HSB.out _ ht.2.2.2).mono ?_
        rintro e6 w6 ⟨rfl, hb6⟩
        have hs : VThree W w1.heap.size w3.heap.size w5.heap.size (.int .i64 k1) (.bool b1) (.bool n1) (.string ⟨g1.toArray⟩) (.int .i64 x1) (.string ⟨s1.toArray⟩) (.slice A1 l1 p1) (.slice B1 m1 z1) (.int .i64 k2) (.bool b2) (.bool n2) (.string ⟨g2.toArray⟩) (.int .i64 x2) (.string ⟨s2.toArray⟩) (.slice A2 l2 p2) (.slice B2 m2 z2) (.int .i64 k3) (.bool b3) (.bool n3) (.string ⟨g3.toArray⟩) (.int .i64 x3) (.string ⟨s3.toArray⟩) (.slice A3 l3 p3) (.slice B3 m3 z3) w6 := VThree.on ht hb6
        clear hb6 ht
        go_wp2_with fail
        refine hK.out _ _ hs (fun ht => ?_)
        clear hK K hs
        try simp only [Act.put, List.setIfInBounds_toArray, List.set_cons_zero, List.set_cons_succ]
        refine wpAnyH_take (i := 8) (oi := ⟨some _, _, _, _, _, _⟩) (v := (.bool false)) rfl (by kernel_rfl) (by kernel_rfl) (by kernel_rfl) (fun _ _ _ h => h) (Or.inl ⟨by rfl, ?_⟩) ht ?_
        · intro W9 hSw
          obtain ⟨⟨c0, c1, c2, c3, c4, c5, c6, c7⟩, ⟨d0, d1, d2, d3, d4, d5, d6, d7⟩, ⟨e0, e1, e2, e3, e4, e5, e6, e7⟩, cb⟩ := hSw
          go_simp
        try simp only [Act.put, List.setIfInBounds_toArray, List.set_cons_zero, List.set_cons_succ]
        refine wpAnyH_take (i := 9) (oi := ⟨some _, _, _, _, _, _⟩) (v := (.bool false)) rfl (by kernel_rfl) (by kernel_rfl) (by kernel_rfl) (fun _ _ _ h => h) (Or.inl ⟨by rfl, ?_⟩) ht ?_
        · intro W9 hSw
          obtain ⟨⟨c0, c1, c2, c3, c4, c5, c6, c7⟩, ⟨d0, d1, d2, d3, d4, d5, d6, d7⟩, ⟨e0, e1, e2, e3, e4, e5, e6, e7⟩, cb⟩ := hSw
          go_simp
        try simp only [Act.put, List.setIfInBounds_toArray, List.set_cons_zero, List.set_cons_succ]
        refine wpAnyH_take (i := 10) (oi := ⟨some _, _, _, _, _, _⟩) (v := (.agg #[.int .i64 k1, .bool b1, .bool n1, .string ⟨g1.toArray⟩, .int .i64 x1, .string ⟨s1.toArray⟩, .slice A1 l1 p1, .slice B1 m1 z1])) rfl (by kernel_rfl) (by kernel_rfl) (by kernel_rfl) (fun _ _ _ h => h) (Or.inl ⟨by rfl, ?_⟩) ht ?_
        · intro W9 hSw
          obtain ⟨⟨c0, c1, c2, c3, c4, c5, c6, c7⟩, ⟨d0, d1, d2, d3, d4, d5, d6, d7⟩, ⟨e0, e1, e2, e3, e4, e5, e6, e7⟩, cb⟩ := hSw
          go_simp
        try simp only [Act.put, List.setIfInBounds_toArray, List.set_cons_zero, List.set_cons_succ]
        refine wpAnyH_take (i := 12) (oi := ⟨some _, _, _, _, _, _⟩) (v := (.agg #[.int .i64 k2, .bool b2, .bool n2, .string ⟨g2.toArray⟩, .int .i64 x2, .string ⟨s2.toArray⟩, .slice A2 l2 p2, .slice B2 m2 z2])) rfl (by kernel_rfl) (by kernel_rfl) (by kernel_rfl) (fun _ _ _ h => h) (Or.inl ⟨by rfl, ?_⟩) ht ?_
        · intro W9 hSw
          obtain ⟨⟨c0, c1, c2, c3, c4, c5, c6, c7⟩, ⟨d0, d1, d2, d3, d4, d5, d6, d7⟩, ⟨e0, e1, e2, e3, e4, e5, e6, e7⟩, cb⟩ := hSw
          go_simp
        try simp only [Act.put, List.setIfInBounds_toArray, List.set_cons_zero, List.set_cons_succ]
        refine wpAnyH_ready (rs := [11]) (by kernel_rfl) (by simp) ?_
        refine AllReadyH.cons (o := ⟨some _, _, _, _, _, _⟩) rfl (fun K hK => ?_) AllReadyH.nil
        go_simp
        refine (HDA.out _ ht.2.2.2).mono ?_
        rintro e6 w6 ⟨rfl, hb6⟩
        have hs : VThree W w1.heap.size w3.heap.size w5.heap.size (.int .i64 k1) (.bool b1) (.bool n1) (.string ⟨g1.toArray⟩) (.int .i64 x1) (.string ⟨s1.toArray⟩) (.slice A1 l1 p1) (.slice B1 m1 z1) (.int .i64 k2) (.bool b2) (.bool n2) (.string ⟨g2.toArray⟩) (.int .i64 x2) (.string ⟨s2.toArray⟩) (.slice A2 l2 p2) (.slice B2 m2 z2) (.int .i64 k3) (.bool b3) (.bool n3) (.string ⟨g3.toArray⟩) (.int .i64 x3) (.string ⟨s3.toArray⟩) (.slice A3 l3 p3) (.slice B3 m3 z3) w6 := VThree.on ht hb6
        clear hb6 ht
        go_wp2_with fail
        refine hK.out _ _ hs (fun ht => ?_)
        clear hK K hs
        try simp only [Act.put, List.setIfInBounds_toArray, List.set_cons_zero, List.set_cons_succ]
        refine wpAnyH_ready (rs := [13]) (by kernel_rfl) (by simp) ?_
        refine AllReadyH.cons (o := ⟨some _, _, _, _, _, _⟩) rfl (fun K hK => ?_) AllReadyH.nil
        go_simp
        refine (HDB.out _ ht.2.2.2).mono ?_
        rintro e6 w6 ⟨rfl, hb6⟩
        have hs : VThree W w1.heap.size w3.heap.size w5.heap.size (.int .i64 k1) (.bool b1) (.bool n1) (.string ⟨g1.toArray⟩) (.int .i64 x1) (.string ⟨s1.toArray⟩) (.slice A1 l1 p1) (.slice B1 m1 z1) (.int .i64 k2) (.bool b2) (.bool n2) (.string ⟨g2.toArray⟩) (.int .i64 x2) (.string ⟨s2.toArray⟩) (.slice A2 l2 p2) (.slice B2 m2 z2) (.int .i64 k3) (.bool b3) (.bool n3) (.string ⟨g3.toArray⟩) (.int .i64 x3) (.string ⟨s3.toArray⟩) (.slice A3 l3 p3) (.slice B3 m3 z3) w6 := VThree.on ht hb6
        clear hb6 ht
        go_wp2_with fail
        refine hK.out _ _ hs (fun ht => ?_)
        clear hK K hs
        try simp only [Act.put, List.setIfInBounds_toArray, List.set_cons_zero, List.set_cons_succ]
        refine wpAnyH_take (i := 14) (oi := ⟨some _, _, _, _, _, _⟩) (v := (.bool false)) rfl (by kernel_rfl) (by kernel_rfl) (by kernel_rfl) (fun _ _ _ h => h) (Or.inl ⟨by rfl, ?_⟩) ht ?_
        · intro W9 hSw
          obtain ⟨⟨c0, c1, c2, c3, c4, c5, c6, c7⟩, ⟨d0, d1, d2, d3, d4, d5, d6, d7⟩, ⟨e0, e1, e2, e3, e4, e5, e6, e7⟩, cb⟩ := hSw
          go_simp
        try simp only [Act.put, List.setIfInBounds_toArray, List.set_cons_zero, List.set_cons_succ]
        refine wpAnyH_take (i := 15) (oi := ⟨some _, _, _, _, _, _⟩) (v := (.bool false)) rfl (by kernel_rfl) (by kernel_rfl) (by kernel_rfl) (fun _ _ _ h => h) (Or.inl ⟨by rfl, ?_⟩) ht ?_
        · intro W9 hSw
          obtain ⟨⟨c0, c1, c2, c3, c4, c5, c6, c7⟩, ⟨d0, d1, d2, d3, d4, d5, d6, d7⟩, ⟨e0, e1, e2, e3, e4, e5, e6, e7⟩, cb⟩ := hSw
          go_simp
        try simp only [Act.put, List.setIfInBounds_toArray, List.set_cons_zero, List.set_cons_succ]
        refine wpAnyH_take (i := 16) (oi := ⟨some _, _, _, _, _, _⟩) (v := (.bool false)) rfl (by kernel_rfl) (by kernel_rfl) (by kernel_rfl) (fun _ _ _ h => h) (Or.inl ⟨by rfl, ?_⟩) ht ?_
        · intro W9 hSw
          obtain ⟨⟨c0, c1, c2, c3, c4, c5, c6, c7⟩, ⟨d0, d1, d2, d3, d4, d5, d6, d7⟩, ⟨e0, e1, e2, e3, e4, e5, e6, e7⟩, cb⟩ := hSw
          go_simp
        try simp only [Act.put, List.setIfInBounds_toArray, List.set_cons_zero, List.set_cons_succ]
        refine wpAnyH_done (by kernel_rfl) ?_ _
        go_wp2_with fail
        go_meet
        case rel => exact ⟨rfl, ht⟩
    case rest =>
      obtain ⟨rfl, h4⟩ := hcut
      have H4 := Lib.hid h4
      clear h4 H3
      obtain ⟨⟨c0, c1, c2, c3, c4, c5, c6, c7⟩, ⟨d0, d1, d2, d3, d4, d5, d6, d7⟩, -, -⟩ := H4.out
      have hb6 : Below wc.heap.size wc ((wc.alloc (.cells #[.int .i64 k1, .bool b1, .bool n1, .string ⟨g1.toArray⟩, .int .i64 x1, .string ⟨s1.toArray⟩, .slice A1 l1 p1, .slice B1 m1 z1, .int .i64 k2, .bool b2, .bool n2, .string ⟨g2.toArray⟩, .int .i64 x2, .string ⟨s2.toArray⟩, .slice A2 l2 p2, .slice B2 m2 z2] 52)).alloc (.cells #[.int .i64 4, .bool false, .bool false, .string ⟨#[]⟩, .int .i64 0, .string ⟨#[]⟩, .slice (some ⟨wc.heap.size, 0, none⟩) 2 2, .slice none 0 0] 52)) := ((Below.refl _ _).alloc (Nat.le_refl _) _).alloc (by simp) _
      have HAR := Lib.hid ((Blk.new wc 52 #[.int .i64 k1, .bool b1, .bool n1, .string ⟨g1.toArray⟩, .int .i64 x1, .string ⟨s1.toArray⟩, .slice A1 l1 p1, .slice B1 m1 z1, .int .i64 k2, .bool b2, .bool n2, .string ⟨g2.toArray⟩, .int .i64 x2, .string ⟨s2.toArray⟩, .slice A2 l2 p2, .slice B2 m2 z2]).alloc (.cells #[.int .i64 4, .bool false, .bool false, .string ⟨#[]⟩, .int .i64 0, .string ⟨#[]⟩, .slice (some ⟨wc.heap.size, 0, none⟩) 2 2, .slice none 0 0] 52))
      have HL6 := Lib.hid (Blk.new2 wc (.cells #[.int .i64 k1, .bool b1, .bool n1, .string ⟨g1.toArray⟩, .int .i64 x1, .string ⟨s1.toArray⟩, .slice A1 l1 p1, .slice B1 m1 z1, .int .i64 k2, .bool b2, .bool n2, .string ⟨g2.toArray⟩, .int .i64 x2, .string ⟨s2.toArray⟩, .slice A2 l2 p2, .slice B2 m2 z2] 52) 52 #[.int .i64 4, .bool false, .bool false, .string ⟨#[]⟩, .int .i64 0, .string ⟨#[]⟩, .slice (some ⟨wc.heap.size, 0, none⟩) 2 2, .slice none 0 0])
      have HN16 := Lib.hid (In.keep ((le_below H4.out.2.2.2).trans (le_below hb6)) _ _ HN13.out)
      have HN26 := Lib.hid (In.keep ((le_below H4.out.2.2.2).trans (le_below hb6)) _ _ HN23.out)
      have HA16 := Lib.hid (H4.out.1.on hb6)
      have HA26 := Lib.hid (H4.out.2.1.on hb6)
      have HB6 := Lib.hid (HB3.out.trans ((H4.out.2.2.2.trans (hb6.mono H4.out.2.2.2.size)).mono HB3.out.size))
      clear hb6 H4 HN13 HN23 HN33 HB3 HAB HQ
      go_upto_region 12 with (fail)
      clear c0 c1 c2 c3 c4 c5 c6 c7 d0 d1 d2 d3 d4 d5 d6 d7
      generalize (wc.alloc (.cells #[.int .i64 k1, .bool b1, .bool n1, .string ⟨g1.toArray⟩, .int .i64 x1, .string ⟨s1.toArray⟩, .slice A1 l1 p1, .slice B1 m1 z1, .int .i64 k2, .bool b2, .bool n2, .string ⟨g2.toArray⟩, .int .i64 x2, .string ⟨s2.toArray⟩, .slice A2 l2 p2, .slice B2 m2 z2] 52)).alloc (.cells #[.int .i64 4, .bool false, .bool false, .string ⟨#[]⟩, .int .i64 0, .string ⟨#[]⟩, .slice (some ⟨wc.heap.size, 0, none⟩) 2 2, .slice none 0 0] 52) = w6 at *
      have HIL := Lib.hid (two_in (g := wc.heap.size) HN16.out HN26.out (HAR.out.cellsAt 0 _ (by intro j u hu; rcases j with _ | _ | _ | _ | _ | _ | _ | _ | j <;> first | exact hu | cases hu)) (HAR.out.cellsAt 8 _ (by intro j u hu; rcases j with _ | _ | _ | _ | _ | _ | _ | _ | j <;> first | exact hu | cases hu)))
      have HM6 := Lib.hid (Blk.new w6 62 #[.string ⟨#[97]⟩, .int .i64 k1, .bool b1, .bool n1, .string ⟨g1.toArray⟩, .int .i64 x1, .string ⟨s1.toArray⟩, .slice A1 l1 p1, .slice B1 m1 z1, .string ⟨#[98]⟩, .int .i64 k2, .bool b2, .bool n2, .string ⟨g2.toArray⟩, .int .i64 x2, .string ⟨s2.toArray⟩, .slice A2 l2 p2, .slice B2 m2 z2])
      have hlm := le_alloc w6 (.cells #[.string ⟨#[97]⟩, .int .i64 k1, .bool b1, .bool n1, .string ⟨g1.toArray⟩, .int .i64 x1, .string ⟨s1.toArray⟩, .slice A1 l1 p1, .slice B1 m1 z1, .string ⟨#[98]⟩, .int .i64 k2, .bool b2, .bool n2, .string ⟨g2.toArray⟩, .int .i64 x2, .string ⟨s2.toArray⟩, .slice A2 l2 p2, .slice B2 m2 z2] 62)
      have HIM := Lib.hid (pair_in (k := [97]) (k' := [98]) (g := w6.heap.size) (In.keep hlm _ _ HN16.out) (In.keep hlm _ _ HN26.out) (HM6.out.cell 0) (HM6.out.cellsAt 1 _ (by intro j u hu; rcases j with _ | _ | _ | _ | _ | _ | _ | _ | j <;> first | exact hu | cases hu)) (HM6.out.cell 9) (HM6.out.cellsAt 10 _ (by intro j u hu; rcases j with _ | _ | _ | _ | _ | _ | _ | _ | j <;> first | exact hu | cases hu)))
      have HFD := Lib.hid (find_any _ [98] _ _ (pair_may HF1.out.1 HF2.out.1) (by have := HF1.out.2.1; have := HF2.out.2.1; simp only [Vl.size, sizeL, sizeM, sizeP]; omega) HIM.out)
      rw [pair_find] at HFD
      have hb7 := (Below.refl w6.heap.size w6).alloc (Nat.le_refl _) (.cells #[.string ⟨#[97]⟩, .int .i64 k1, .bool b1, .bool n1, .string ⟨g1.toArray⟩, .int .i64 x1, .string ⟨s1.toArray⟩, .slice A1 l1 p1, .slice B1 m1 z1, .string ⟨#[98]⟩, .int .i64 k2, .bool b2, .bool n2, .string ⟨g2.toArray⟩, .int .i64 x2, .string ⟨s2.toArray⟩, .slice A2 l2 p2, .slice B2 m2 z2] 62)
      have HB7 := Lib.hid hb7
      clear hlm hb7 HM6 HIM
      obtain ⟨c0, c1, c2, c3, c4, c5, c6, c7⟩ := HA16.out
      obtain ⟨d0, d1, d2, d3, d4, d5, d6, d7⟩ := HA26.out
      go_wp2_with fail
      refine HFD.out.mono ?_
      rintro e w7 ⟨y7, rfl, hin7, hb7⟩
      simp only [Option.getD_some] at hin7
      obtain ⟨k7, b7, n7, g7, x7, s7, A7, l7, p7, B7, m7, z7, rfl⟩ := In.cells hin7
      have h67 : Below w6.heap.size w6 w7 := HB7.out.trans (hb7.mono (by simp))
      have h68 := h67.alloc h67.size (.cells #[.int .i64 k7, .bool b7, .bool n7, .string ⟨g7.toArray⟩, .int .i64 x7, .string ⟨s7.toArray⟩, .slice A7 l7 p7, .slice B7 m7 z7] 52)
      have HL8 := Lib.hid (HL6.out.at8.on h68)
      have HA8 := Lib.hid (HA16.out.on h68)
      have HB8 := Lib.hid (HA26.out.on h68)
      have HX8 := Lib.hid (Blk.new w7 52 #[.int .i64 k7, .bool b7, .bool n7, .string ⟨g7.toArray⟩, .int .i64 x7, .string ⟨s7.toArray⟩, .slice A7 l7 p7, .slice B7 m7 z7])
      have HIL8 := Lib.hid (In.keep (le_below h68) _ _ HIL.out)
      have HN18 := Lib.hid (In.keep (le_below h68) _ _ HN16.out)
      have HN28 := Lib.hid (In.keep (le_below h68) _ _ HN26.out)
      have HNX8 := Lib.hid (In.keep (le_alloc w7 (.cells #[.int .i64 k7, .bool b7, .bool n7, .string ⟨g7.toArray⟩, .int .i64 x7, .string ⟨s7.toArray⟩, .slice A7 l7 p7, .slice B7 m7 z7] 52)) _ _ hin7)
      have HBF := Lib.hid (HB6.out.trans (h68.mono HB6.out.size))
      clear hin7 hb7 h67 h68 HB7 HB6 HL6 HA16 HA26 HAR HIL HN16 HN26 HFD c0 c1 c2 c3 c4 c5 c6 c7 d0 d1 d2 d3 d4 d5 d6 d7
      go_upto_region 13 with (fail)
      generalize w7.alloc (.cells #[.int .i64 k7, .bool b7, .bool n7, .string ⟨g7.toArray⟩, .int .i64 x7, .string ⟨s7.toArray⟩, .slice A7 l7 p7, .slice B7 m7 z7] 52) = W7 at *
      have HFIN := Lib.hid (show VFour W7 (wc.heap.size + 1) w1.heap.size w3.heap.size w7.heap.size (.int .i64 4) (.bool false) (.bool false) (.string ⟨#[]⟩) (.int .i64 0) (.string ⟨#[]⟩) (.slice (some ⟨wc.heap.size, 0, none⟩) 2 2) (.slice none 0 0) (.int .i64 k1) (.bool b1) (.bool n1) (.string ⟨g1.toArray⟩) (.int .i64 x1) (.string ⟨s1.toArray⟩) (.slice A1 l1 p1) (.slice B1 m1 z1) (.int .i64 k2) (.bool b2) (.bool n2) (.string ⟨g2.toArray⟩) (.int .i64 x2) (.string ⟨s2.toArray⟩) (.slice A2 l2 p2) (.slice B2 m2 z2) (.int .i64 k7) (.bool b7) (.bool n7) (.string ⟨g7.toArray⟩) (.int .i64 x7) (.string ⟨s7.toArray⟩) (.slice A7 l7 p7) (.slice B7 m7 z7) W7 from ⟨HL8.out, HA8.out, HB8.out, HX8.out.at8, Below.refl _ _⟩)
      have hz1 := HF1.out.2.1
      have hz2 := HF2.out.2.1
      have hd1 := HF1.out.2.2.1
      have hd2 := HF2.out.2.2.1
      have hl1 := HF1.out.2.2.2.1
      have hl2 := HF2.out.2.2.2.1
      have hsl := size_on (n := (Vl.mk 4 false Nm.Num.zero [] [v1, v2] []).size) (by simp only [Vl.size, sizeL, sizeM]; omega) HIL8.out rfl
      simp only [two_size] at hsl
      have hdl := depth_on (n := (Vl.mk 4 false Nm.Num.zero [] [v1, v2] []).depth) (by simp only [Vl.levels, levelsL, levelsM]; omega) HIL8.out rfl
      simp only [two_depth] at hdl
      have HSL := Lib.hid hsl
      have HDL := Lib.hid hdl
      have HSA := Lib.hid (size_on (by omega) HN18.out (show v1.size = v1.size from rfl))
      have HSB := Lib.hid (size_on (by omega) HN28.out (show v2.size = v2.size from rfl))
      have HDA := Lib.hid (depth_on (by omega) HN18.out (show v1.depth = v1.depth from rfl))
      have HDB := Lib.hid (depth_on (by omega) HN28.out (show v2.depth = v2.depth from rfl))
      have HXB := Lib.hid (same_on HF2.out.1 HF2.out.1 HNX8.out HN28.out (same_refl v2))
      clear hsl hdl hl1 hl2 HL8 HA8 HB8 HX8 HIL8 HN18 HN28 HNX8 HF1 HF2 HF3
      generalize v1.size = y1 at *
      generalize v2.size = y2 at *
      generalize v1.depth = t1 at *
      generalize v2.depth = t2 at *
      have hw1 : IntKind.i64.wrap (1 + (y1 : Int)) = 1 + (y1 : Int) := IntWalk.i64_in _ (by omega)
      have hw2 : IntKind.i64.wrap (1 + (y1 : Int) + (y2 : Int)) = 1 + (y1 : Int) + (y2 : Int) := IntWalk.i64_in _ (by omega)
      have hw3 : IntKind.i64.wrap (1 + max (t1 : Int) (t2 : Int)) = 1 + max (t1 : Int) (t2 : Int) := IntWalk.i64_in _ (by omega)
      refine wp_region_held_drew (S := VFour W7 (wc.heap.size + 1) w1.heap.size w3.heap.size w7.heap.size (.int .i64 4) (.bool false) (.bool false) (.string ⟨#[]⟩) (.int .i64 0) (.string ⟨#[]⟩) (.slice (some ⟨wc.heap.size, 0, none⟩) 2 2) (.slice none 0 0) (.int .i64 k1) (.bool b1) (.bool n1) (.string ⟨g1.toArray⟩) (.int .i64 x1) (.string ⟨s1.toArray⟩) (.slice A1 l1 p1) (.slice B1 m1 z1) (.int .i64 k2) (.bool b2) (.bool n2) (.string ⟨g2.toArray⟩) (.int .i64 x2) (.string ⟨s2.toArray⟩) (.slice A2 l2 p2) (.slice B2 m2 z2) (.int .i64 k7) (.bool b7) (.bool n7) (.string ⟨g7.toArray⟩) (.int .i64 x7) (.string ⟨s7.toArray⟩) (.slice A7 l7 p7) (.slice B7 m7 z7)) (by kernel_rfl) (VFour.on HFIN.out (Below.refl _ _).drew) (fun ht => ?_)
      refine wpAnyH_take (i := 0) (oi := ⟨some _, _, _, _, _, _⟩) (v := (.bool true)) rfl (by kernel_rfl) (by kernel_rfl) (by kernel_rfl) (fun _ _ _ h => h) (Or.inl ⟨by rfl, ?_⟩) ht ?_
      · intro W9 hSw
        obtain ⟨⟨c0, c1, c2, c3, c4, c5, c6, c7⟩, ⟨d0, d1, d2, d3, d4, d5, d6, d7⟩, ⟨e0, e1, e2, e3, e4, e5, e6, e7⟩, ⟨f0, f1, f2, f3, f4, f5, f6, f7⟩, cb⟩ := hSw
        go_simp
      try simp only [Act.put, List.setIfInBounds_toArray, List.set_cons_zero, List.set_cons_succ]
      refine wpAnyH_take (i := 1) (oi := ⟨some _, _, _, _, _, _⟩) (v := (.bool true)) rfl (by kernel_rfl) (by kernel_rfl) (by kernel_rfl) (fun _ _ _ h => h) (Or.inl ⟨by rfl, ?_⟩) ht ?_
      · intro W9 hSw
        obtain ⟨⟨c0, c1, c2, c3, c4, c5, c6, c7⟩, ⟨d0, d1, d2, d3, d4, d5, d6, d7⟩, ⟨e0, e1, e2, e3, e4, e5, e6, e7⟩, ⟨f0, f1, f2, f3, f4, f5, f6, f7⟩, cb⟩ := hSw
        go_simp
      try simp only [Act.put, List.setIfInBounds_toArray, List.set_cons_zero, List.set_cons_succ]
      refine wpAnyH_take (i := 2) (oi := ⟨some _, _, _, _, _, _⟩) (v := (.agg #[.int .i64 4, .bool false, .bool false, .string ⟨#[]⟩, .int .i64 0, .string ⟨#[]⟩, .slice (some ⟨wc.heap.size, 0, none⟩) 2 2, .slice none 0 0])) rfl (by kernel_rfl) (by kernel_rfl) (by kernel_rfl) (fun _ _ _ h => h) (Or.inl ⟨by rfl, ?_⟩) ht ?_
      · intro W9 hSw
        obtain ⟨⟨c0, c1, c2, c3, c4, c5, c6, c7⟩, ⟨d0, d1, d2, d3, d4, d5, d6, d7⟩, ⟨e0, e1, e2, e3, e4, e5, e6, e7⟩, ⟨f0, f1, f2, f3, f4, f5, f6, f7⟩, cb⟩ := hSw
        go_simp
      try simp only [Act.put, List.setIfInBounds_toArray, List.set_cons_zero, List.set_cons_succ]
      refine wpAnyH_take (i := 4) (oi := ⟨some _, _, _, _, _, _⟩) (v := (.agg #[.int .i64 k1, .bool b1, .bool n1, .string ⟨g1.toArray⟩, .int .i64 x1, .string ⟨s1.toArray⟩, .slice A1 l1 p1, .slice B1 m1 z1])) rfl (by kernel_rfl) (by kernel_rfl) (by kernel_rfl) (fun _ _ _ h => h) (Or.inl ⟨by rfl, ?_⟩) ht ?_
      · intro W9 hSw
        obtain ⟨⟨c0, c1, c2, c3, c4, c5, c6, c7⟩, ⟨d0, d1, d2, d3, d4, d5, d6, d7⟩, ⟨e0, e1, e2, e3, e4, e5, e6, e7⟩, ⟨f0, f1, f2, f3, f4, f5, f6, f7⟩, cb⟩ := hSw
        go_simp
      try simp only [Act.put, List.setIfInBounds_toArray, List.set_cons_zero, List.set_cons_succ]
      refine wpAnyH_take (i := 7) (oi := ⟨some _, _, _, _, _, _⟩) (v := (.agg #[.int .i64 k2, .bool b2, .bool n2, .string ⟨g2.toArray⟩, .int .i64 x2, .string ⟨s2.toArray⟩, .slice A2 l2 p2, .slice B2 m2 z2])) rfl (by kernel_rfl) (by kernel_rfl) (by kernel_rfl) (fun _ _ _ h => h) (Or.inl ⟨by rfl, ?_⟩) ht ?_
      · intro W9 hSw
        obtain ⟨⟨c0, c1, c2, c3, c4, c5, c6, c7⟩, ⟨d0, d1, d2, d3, d4, d5, d6, d7⟩, ⟨e0, e1, e2, e3, e4, e5, e6, e7⟩, ⟨f0, f1, f2, f3, f4, f5, f6, f7⟩, cb⟩ := hSw
        go_simp
      try simp only [Act.put, List.setIfInBounds_toArray, List.set_cons_zero, List.set_cons_succ]
      refine wpAnyH_ready (rs := [3]) (by kernel_rfl) (by simp) ?_
      refine AllReadyH.cons (o := ⟨some _, _, _, _, _, _⟩) rfl (fun K hK => ?_) AllReadyH.nil
      go_simp
      refine (HSL.out _ ht.2.2.2.2).mono ?_
      rintro e6 w6 ⟨rfl, hb6⟩
      have hs : VFour W7 (wc.heap.size + 1) w1.heap.size w3.heap.size w7.heap.size (.int .i64 4) (.bool false) (.bool false) (.string ⟨#[]⟩) (.int .i64 0) (.string ⟨#[]⟩) (.slice (some ⟨wc.heap.size, 0, none⟩) 2 2) (.slice none 0 0) (.int .i64 k1) (.bool b1) (.bool n1) (.string ⟨g1.toArray⟩) (.int .i64 x1) (.string ⟨s1.toArray⟩) (.slice A1 l1 p1) (.slice B1 m1 z1) (.int .i64 k2) (.bool b2) (.bool n2) (.string ⟨g2.toArray⟩) (.int .i64 x2) (.string ⟨s2.toArray⟩) (.slice A2 l2 p2) (.slice B2 m2 z2) (.int .i64 k7) (.bool b7) (.bool n7) (.string ⟨g7.toArray⟩) (.int .i64 x7) (.string ⟨s7.toArray⟩) (.slice A7 l7 p7) (.slice B7 m7 z7) w6 := VFour.on ht hb6
      clear hb6 ht
      go_wp2_with fail
      refine hK.out _ _ hs (fun ht => ?_)
      clear hK K hs
      try simp only [Act.put, List.setIfInBounds_toArray, List.set_cons_zero, List.set_cons_succ]
      refine wpAnyH_ready (rs := [5]) (by kernel_rfl) (by simp) ?_
      refine AllReadyH.cons (o := ⟨some _, _, _, _, _, _⟩) rfl (fun K hK => ?_) AllReadyH.nil
      go_simp
      refine (HSA.out _ ht.2.2.2.2).mono ?_
      rintro e6 w6 ⟨rfl, hb6⟩
      have hs : VFour W7 (wc.heap.size + 1) w1.heap.size w3.heap.size w7.heap.size (.int .i64 4) (.bool false) (.bool false) (.string ⟨#[]⟩) (.int .i64 0) (.string ⟨#[]⟩) (.slice (some ⟨wc.heap.size, 0, none⟩) 2 2) (.slice none 0 0) (.int .i64 k1) (.bool b1) (.bool n1) (.string ⟨g1.toArray⟩) (.int .i64 x1) (.string ⟨s1.toArray⟩) (.slice A1 l1 p1) (.slice B1 m1 z1) (.int .i64 k2) (.bool b2) (.bool n2) (.string ⟨g2.toArray⟩) (.int .i64 x2) (.string ⟨s2.toArray⟩) (.slice A2 l2 p2) (.slice B2 m2 z2) (.int .i64 k7) (.bool b7) (.bool n7) (.string ⟨g7.toArray⟩) (.int .i64 x7) (.string ⟨s7.toArray⟩) (.slice A7 l7 p7) (.slice B7 m7 z7) w6 := VFour.on ht hb6
      clear hb6 ht
      go_wp2_with fail
      refine hK.out _ _ hs (fun ht => ?_)
      clear hK K hs
      try simp only [Act.put, List.setIfInBounds_toArray, List.set_cons_zero, List.set_cons_succ]
      refine wpAnyH_take (i := 6) (oi := ⟨some _, _, _, _, _, _⟩) (v := (.int .i64 (1 + (y1 : Int)))) rfl (by kernel_rfl) (by kernel_rfl) (by kernel_rfl) (fun _ _ _ h => h) (Or.inl ⟨by rfl, ?_⟩) ht ?_
      · intro W9 hSw
        obtain ⟨⟨c0, c1, c2, c3, c4, c5, c6, c7⟩, ⟨d0, d1, d2, d3, d4, d5, d6, d7⟩, ⟨e0, e1, e2, e3, e4, e5, e6, e7⟩, ⟨f0, f1, f2, f3, f4, f5, f6, f7⟩, cb⟩ := hSw
        go_simp
      try simp only [Act.put, List.setIfInBounds_toArray, List.set_cons_zero, List.set_cons_succ]
      refine wpAnyH_ready (rs := [8]) (by kernel_rfl) (by simp) ?_
      refine AllReadyH.cons (o := ⟨some _, _, _, _, _, _⟩) rfl (fun K hK => ?_) AllReadyH.nil
      go_simp
      refine (HSB.out _ ht.2.2.2.2).mono ?_
      rintro e6 w6 ⟨rfl, hb6⟩
      have hs : VFour W7 (wc.heap.size + 1) w1.heap.size w3.heap.size w7.heap.size (.int .i64 4) (.bool false) (.bool false) (.string ⟨#[]⟩) (.int .i64 0) (.string ⟨#[]⟩) (.slice (some ⟨wc.heap.size, 0, none⟩) 2 2) (.slice none 0 0) (.int .i64 k1) (.bool b1) (.bool n1) (.string ⟨g1.toArray⟩) (.int .i64 x1) (.string ⟨s1.toArray⟩) (.slice A1 l1 p1) (.slice B1 m1 z1) (.int .i64 k2) (.bool b2) (.bool n2) (.string ⟨g2.toArray⟩) (.int .i64 x2) (.string ⟨s2.toArray⟩) (.slice A2 l2 p2) (.slice B2 m2 z2) (.int .i64 k7) (.bool b7) (.bool n7) (.string ⟨g7.toArray⟩) (.int .i64 x7) (.string ⟨s7.toArray⟩) (.slice A7 l7 p7) (.slice B7 m7 z7) w6 := VFour.on ht hb6
      clear hb6 ht
      go_wp2_with fail
      refine hK.out _ _ hs (fun ht => ?_)
      clear hK K hs
      try simp only [Act.put, List.setIfInBounds_toArray, List.set_cons_zero, List.set_cons_succ]
      refine wpAnyH_take (i := 9) (oi := ⟨some _, _, _, _, _, _⟩) (v := (.int .i64 (1 + (y1 : Int) + (y2 : Int)))) rfl (by kernel_rfl) (by kernel_rfl) (by kernel_rfl) (fun _ _ _ h => h) (Or.inl ⟨by rfl, ?_⟩) ht ?_
      · intro W9 hSw
        obtain ⟨⟨c0, c1, c2, c3, c4, c5, c6, c7⟩, ⟨d0, d1, d2, d3, d4, d5, d6, d7⟩, ⟨e0, e1, e2, e3, e4, e5, e6, e7⟩, ⟨f0, f1, f2, f3, f4, f5, f6, f7⟩, cb⟩ := hSw
        go_simp
      try simp only [Act.put, List.setIfInBounds_toArray, List.set_cons_zero, List.set_cons_succ]
      refine wpAnyH_take (i := 10) (oi := ⟨some _, _, _, _, _, _⟩) (v := (.bool true)) rfl (by kernel_rfl) (by kernel_rfl) (by kernel_rfl) (fun _ _ _ h => h) (Or.inl ⟨by rfl, ?_⟩) ht ?_
      · intro W9 hSw
        obtain ⟨⟨c0, c1, c2, c3, c4, c5, c6, c7⟩, ⟨d0, d1, d2, d3, d4, d5, d6, d7⟩, ⟨e0, e1, e2, e3, e4, e5, e6, e7⟩, ⟨f0, f1, f2, f3, f4, f5, f6, f7⟩, cb⟩ := hSw
        go_simp
      try simp only [Act.put, List.setIfInBounds_toArray, List.set_cons_zero, List.set_cons_succ]
      refine wpAnyH_take (i := 11) (oi := ⟨some _, _, _, _, _, _⟩) (v := (.bool true)) rfl (by kernel_rfl) (by kernel_rfl) (by kernel_rfl) (fun _ _ _ h => h) (Or.inl ⟨by rfl, ?_⟩) ht ?_
      · intro W9 hSw
        obtain ⟨⟨c0, c1, c2, c3, c4, c5, c6, c7⟩, ⟨d0, d1, d2, d3, d4, d5, d6, d7⟩, ⟨e0, e1, e2, e3, e4, e5, e6, e7⟩, ⟨f0, f1, f2, f3, f4, f5, f6, f7⟩, cb⟩ := hSw
        go_simp
      try simp only [Act.put, List.setIfInBounds_toArray, List.set_cons_zero, List.set_cons_succ]
      refine wpAnyH_take (i := 12) (oi := ⟨some _, _, _, _, _, _⟩) (v := (.bool true)) rfl (by kernel_rfl) (by kernel_rfl) (by kernel_rfl) (fun _ _ _ h => h) (Or.inl ⟨by rfl, ?_⟩) ht ?_
      · intro W9 hSw
        obtain ⟨⟨c0, c1, c2, c3, c4, c5, c6, c7⟩, ⟨d0, d1, d2, d3, d4, d5, d6, d7⟩, ⟨e0, e1, e2, e3, e4, e5, e6, e7⟩, ⟨f0, f1, f2, f3, f4, f5, f6, f7⟩, cb⟩ := hSw
        go_simp
      try simp only [Act.put, List.setIfInBounds_toArray, List.set_cons_zero, List.set_cons_succ]
      refine wpAnyH_take (i := 13) (oi := ⟨some _, _, _, _, _, _⟩) (v := (.agg #[.int .i64 4, .bool false, .bool false, .string ⟨#[]⟩, .int .i64 0, .string ⟨#[]⟩, .slice (some ⟨wc.heap.size, 0, none⟩) 2 2, .slice none 0 0])) rfl (by kernel_rfl) (by kernel_rfl) (by kernel_rfl) (fun _ _ _ h => h) (Or.inl ⟨by rfl, ?_⟩) ht ?_
      · intro W9 hSw
        obtain ⟨⟨c0, c1, c2, c3, c4, c5, c6, c7⟩, ⟨d0, d1, d2, d3, d4, d5, d6, d7⟩, ⟨e0, e1, e2, e3, e4, e5, e6, e7⟩, ⟨f0, f1, f2, f3, f4, f5, f6, f7⟩, cb⟩ := hSw
        go_simp
      try simp only [Act.put, List.setIfInBounds_toArray, List.set_cons_zero, List.set_cons_succ]
      refine wpAnyH_take (i := 15) (oi := ⟨some _, _, _, _, _, _⟩) (v := (.agg #[.int .i64 k1, .bool b1, .bool n1, .string ⟨g1.toArray⟩, .int .i64 x1, .string ⟨s1.toArray⟩, .slice A1 l1 p1, .slice B1 m1 z1])) rfl (by kernel_rfl) (by kernel_rfl) (by kernel_rfl) (fun _ _ _ h => h) (Or.inl ⟨by rfl, ?_⟩) ht ?_
      · intro W9 hSw
        obtain ⟨⟨c0, c1, c2, c3, c4, c5, c6, c7⟩, ⟨d0, d1, d2, d3, d4, d5, d6, d7⟩, ⟨e0, e1, e2, e3, e4, e5, e6, e7⟩, ⟨f0, f1, f2, f3, f4, f5, f6, f7⟩, cb⟩ := hSw
        go_simp
      try simp only [Act.put, List.setIfInBounds_toArray, List.set_cons_zero, List.set_cons_succ]
      refine wpAnyH_take (i := 17) (oi := ⟨some _, _, _, _, _, _⟩) (v := (.agg #[.int .i64 k2, .bool b2, .bool n2, .string ⟨g2.toArray⟩, .int .i64 x2, .string ⟨s2.toArray⟩, .slice A2 l2 p2, .slice B2 m2 z2])) rfl (by kernel_rfl) (by kernel_rfl) (by kernel_rfl) (fun _ _ _ h => h) (Or.inl ⟨by rfl, ?_⟩) ht ?_
      · intro W9 hSw
        obtain ⟨⟨c0, c1, c2, c3, c4, c5, c6, c7⟩, ⟨d0, d1, d2, d3, d4, d5, d6, d7⟩, ⟨e0, e1, e2, e3, e4, e5, e6, e7⟩, ⟨f0, f1, f2, f3, f4, f5, f6, f7⟩, cb⟩ := hSw
        go_simp
      try simp only [Act.put, List.setIfInBounds_toArray, List.set_cons_zero, List.set_cons_succ]
      refine wpAnyH_ready (rs := [14]) (by kernel_rfl) (by simp) ?_
      refine AllReadyH.cons (o := ⟨some _, _, _, _, _, _⟩) rfl (fun K hK => ?_) AllReadyH.nil
      go_simp
      refine (HDL.out _ ht.2.2.2.2).mono ?_
      rintro e6 w6 ⟨rfl, hb6⟩
      have hs : VFour W7 (wc.heap.size + 1) w1.heap.size w3.heap.size w7.heap.size (.int .i64 4) (.bool false) (.bool false) (.string ⟨#[]⟩) (.int .i64 0) (.string ⟨#[]⟩) (.slice (some ⟨wc.heap.size, 0, none⟩) 2 2) (.slice none 0 0) (.int .i64 k1) (.bool b1) (.bool n1) (.string ⟨g1.toArray⟩) (.int .i64 x1) (.string ⟨s1.toArray⟩) (.slice A1 l1 p1) (.slice B1 m1 z1) (.int .i64 k2) (.bool b2) (.bool n2) (.string ⟨g2.toArray⟩) (.int .i64 x2) (.string ⟨s2.toArray⟩) (.slice A2 l2 p2) (.slice B2 m2 z2) (.int .i64 k7) (.bool b7) (.bool n7) (.string ⟨g7.toArray⟩) (.int .i64 x7) (.string ⟨s7.toArray⟩) (.slice A7 l7 p7) (.slice B7 m7 z7) w6 := VFour.on ht hb6
      clear hb6 ht
      go_wp2_with fail
      refine hK.out _ _ hs (fun ht => ?_)
      clear hK K hs
      try simp only [Act.put, List.setIfInBounds_toArray, List.set_cons_zero, List.set_cons_succ]
      refine wpAnyH_ready (rs := [16]) (by kernel_rfl) (by simp) ?_
      refine AllReadyH.cons (o := ⟨some _, _, _, _, _, _⟩) rfl (fun K hK => ?_) AllReadyH.nil
      go_simp
      refine (HDA.out _ ht.2.2.2.2).mono ?_
      rintro e6 w6 ⟨rfl, hb6⟩
      have hs : VFour W7 (wc.heap.size + 1) w1.heap.size w3.heap.size w7.heap.size (.int .i64 4) (.bool false) (.bool false) (.string ⟨#[]⟩) (.int .i64 0) (.string ⟨#[]⟩) (.slice (some ⟨wc.heap.size, 0, none⟩) 2 2) (.slice none 0 0) (.int .i64 k1) (.bool b1) (.bool n1) (.string ⟨g1.toArray⟩) (.int .i64 x1) (.string ⟨s1.toArray⟩) (.slice A1 l1 p1) (.slice B1 m1 z1) (.int .i64 k2) (.bool b2) (.bool n2) (.string ⟨g2.toArray⟩) (.int .i64 x2) (.string ⟨s2.toArray⟩) (.slice A2 l2 p2) (.slice B2 m2 z2) (.int .i64 k7) (.bool b7) (.bool n7) (.string ⟨g7.toArray⟩) (.int .i64 x7) (.string ⟨s7.toArray⟩) (.slice A7 l7 p7) (.slice B7 m7 z7) w6 := VFour.on ht hb6
      clear hb6 ht
      go_wp2_with fail
      refine hK.out _ _ hs (fun ht => ?_)
      clear hK K hs
      try simp only [Act.put, List.setIfInBounds_toArray, List.set_cons_zero, List.set_cons_succ]
      refine wpAnyH_ready (rs := [18]) (by kernel_rfl) (by simp) ?_
      refine AllReadyH.cons (o := ⟨some _, _, _, _, _, _⟩) rfl (fun K hK => ?_) AllReadyH.nil
      go_simp
      refine (HDB.out _ ht.2.2.2.2).mono ?_
      rintro e6 w6 ⟨rfl, hb6⟩
      have hs : VFour W7 (wc.heap.size + 1) w1.heap.size w3.heap.size w7.heap.size (.int .i64 4) (.bool false) (.bool false) (.string ⟨#[]⟩) (.int .i64 0) (.string ⟨#[]⟩) (.slice (some ⟨wc.heap.size, 0, none⟩) 2 2) (.slice none 0 0) (.int .i64 k1) (.bool b1) (.bool n1) (.string ⟨g1.toArray⟩) (.int .i64 x1) (.string ⟨s1.toArray⟩) (.slice A1 l1 p1) (.slice B1 m1 z1) (.int .i64 k2) (.bool b2) (.bool n2) (.string ⟨g2.toArray⟩) (.int .i64 x2) (.string ⟨s2.toArray⟩) (.slice A2 l2 p2) (.slice B2 m2 z2) (.int .i64 k7) (.bool b7) (.bool n7) (.string ⟨g7.toArray⟩) (.int .i64 x7) (.string ⟨s7.toArray⟩) (.slice A7 l7 p7) (.slice B7 m7 z7) w6 := VFour.on ht hb6
      clear hb6 ht
      go_wp2_with fail
      refine hK.out _ _ hs (fun ht => ?_)
      clear hK K hs
      try simp only [Act.put, List.setIfInBounds_toArray, List.set_cons_zero, List.set_cons_succ]
      refine wpAnyH_take (i := 19) (oi := ⟨some _, _, _, _, _, _⟩) (v := (.int .i64 (max (t1 : Int) (t2 : Int)))) rfl (by kernel_rfl) (by kernel_rfl) (by kernel_rfl) (fun _ _ _ h => h) (Or.inl ⟨by rfl, ?_⟩) ht ?_
      · intro W9 hSw
        obtain ⟨⟨c0, c1, c2, c3, c4, c5, c6, c7⟩, ⟨d0, d1, d2, d3, d4, d5, d6, d7⟩, ⟨e0, e1, e2, e3, e4, e5, e6, e7⟩, ⟨f0, f1, f2, f3, f4, f5, f6, f7⟩, cb⟩ := hSw
        go_simp
      try simp only [Act.put, List.setIfInBounds_toArray, List.set_cons_zero, List.set_cons_succ]
      refine wpAnyH_take (i := 20) (oi := ⟨some _, _, _, _, _, _⟩) (v := (.int .i64 (1 + max (t1 : Int) (t2 : Int)))) rfl (by kernel_rfl) (by kernel_rfl) (by kernel_rfl) (fun _ _ _ h => h) (Or.inl ⟨by rfl, ?_⟩) ht ?_
      · intro W9 hSw
        obtain ⟨⟨c0, c1, c2, c3, c4, c5, c6, c7⟩, ⟨d0, d1, d2, d3, d4, d5, d6, d7⟩, ⟨e0, e1, e2, e3, e4, e5, e6, e7⟩, ⟨f0, f1, f2, f3, f4, f5, f6, f7⟩, cb⟩ := hSw
        go_simp
      try simp only [Act.put, List.setIfInBounds_toArray, List.set_cons_zero, List.set_cons_succ]
      refine wpAnyH_take (i := 21) (oi := ⟨some _, _, _, _, _, _⟩) (v := (.bool true)) rfl (by kernel_rfl) (by kernel_rfl) (by kernel_rfl) (fun _ _ _ h => h) (Or.inl ⟨by rfl, ?_⟩) ht ?_
      · intro W9 hSw
        obtain ⟨⟨c0, c1, c2, c3, c4, c5, c6, c7⟩, ⟨d0, d1, d2, d3, d4, d5, d6, d7⟩, ⟨e0, e1, e2, e3, e4, e5, e6, e7⟩, ⟨f0, f1, f2, f3, f4, f5, f6, f7⟩, cb⟩ := hSw
        go_simp
      try simp only [Act.put, List.setIfInBounds_toArray, List.set_cons_zero, List.set_cons_succ]
      refine wpAnyH_take (i := 22) (oi := ⟨some _, _, _, _, _, _⟩) (v := (.bool true)) rfl (by kernel_rfl) (by kernel_rfl) (by kernel_rfl) (fun _ _ _ h => h) (Or.inl ⟨by rfl, ?_⟩) ht ?_
      · intro W9 hSw
        obtain ⟨⟨c0, c1, c2, c3, c4, c5, c6, c7⟩, ⟨d0, d1, d2, d3, d4, d5, d6, d7⟩, ⟨e0, e1, e2, e3, e4, e5, e6, e7⟩, ⟨f0, f1, f2, f3, f4, f5, f6, f7⟩, cb⟩ := hSw
        go_simp
      try simp only [Act.put, List.setIfInBounds_toArray, List.set_cons_zero, List.set_cons_succ]
      refine wpAnyH_take (i := 23) (oi := ⟨some _, _, _, _, _, _⟩) (v := (.bool true)) rfl (by kernel_rfl) (by kernel_rfl) (by kernel_rfl) (fun _ _ _ h => h) (Or.inl ⟨by rfl, ?_⟩) ht ?_
      · intro W9 hSw
        obtain ⟨⟨c0, c1, c2, c3, c4, c5, c6, c7⟩, ⟨d0, d1, d2, d3, d4, d5, d6, d7⟩, ⟨e0, e1, e2, e3, e4, e5, e6, e7⟩, ⟨f0, f1, f2, f3, f4, f5, f6, f7⟩, cb⟩ := hSw
        go_simp
      try simp only [Act.put, List.setIfInBounds_toArray, List.set_cons_zero, List.set_cons_succ]
      refine wpAnyH_take (i := 24) (oi := ⟨some _, _, _, _, _, _⟩) (v := (.bool true)) rfl (by kernel_rfl) (by kernel_rfl) (by kernel_rfl) (fun _ _ _ h => h) (Or.inl ⟨by rfl, ?_⟩) ht ?_
      · intro W9 hSw
        obtain ⟨⟨c0, c1, c2, c3, c4, c5, c6, c7⟩, ⟨d0, d1, d2, d3, d4, d5, d6, d7⟩, ⟨e0, e1, e2, e3, e4, e5, e6, e7⟩, ⟨f0, f1, f2, f3, f4, f5, f6, f7⟩, cb⟩ := hSw
        go_simp
      try simp only [Act.put, List.setIfInBounds_toArray, List.set_cons_zero, List.set_cons_succ]
      refine wpAnyH_take (i := 25) (oi := ⟨some _, _, _, _, _, _⟩) (v := (.bool true)) rfl (by kernel_rfl) (by kernel_rfl) (by kernel_rfl) (fun _ _ _ h => h) (Or.inl ⟨by rfl, ?_⟩) ht ?_
      · intro W9 hSw
        obtain ⟨⟨c0, c1, c2, c3, c4, c5, c6, c7⟩, ⟨d0, d1, d2, d3, d4, d5, d6, d7⟩, ⟨e0, e1, e2, e3, e4, e5, e6, e7⟩, ⟨f0, f1, f2, f3, f4, f5, f6, f7⟩, cb⟩ := hSw
        go_simp
      try simp only [Act.put, List.setIfInBounds_toArray, List.set_cons_zero, List.set_cons_succ]
      refine wpAnyH_take (i := 26) (oi := ⟨some _, _, _, _, _, _⟩) (v := (.bool true)) rfl (by kernel_rfl) (by kernel_rfl) (by kernel_rfl) (fun _ _ _ h => h) (Or.inl ⟨by rfl, ?_⟩) ht ?_
      · intro W9 hSw
        obtain ⟨⟨c0, c1, c2, c3, c4, c5, c6, c7⟩, ⟨d0, d1, d2, d3, d4, d5, d6, d7⟩, ⟨e0, e1, e2, e3, e4, e5, e6, e7⟩, ⟨f0, f1, f2, f3, f4, f5, f6, f7⟩, cb⟩ := hSw
        go_simp
      try simp only [Act.put, List.setIfInBounds_toArray, List.set_cons_zero, List.set_cons_succ]
      refine wpAnyH_take (i := 27) (oi := ⟨some _, _, _, _, _, _⟩) (v := (.agg #[.int .i64 k7, .bool b7, .bool n7, .string ⟨g7.toArray⟩, .int .i64 x7, .string ⟨s7.toArray⟩, .slice A7 l7 p7, .slice B7 m7 z7])) rfl (by kernel_rfl) (by kernel_rfl) (by kernel_rfl) (fun _ _ _ h => h) (Or.inl ⟨by rfl, ?_⟩) ht ?_
      · intro W9 hSw
        obtain ⟨⟨c0, c1, c2, c3, c4, c5, c6, c7⟩, ⟨d0, d1, d2, d3, d4, d5, d6, d7⟩, ⟨e0, e1, e2, e3, e4, e5, e6, e7⟩, ⟨f0, f1, f2, f3, f4, f5, f6, f7⟩, cb⟩ := hSw
        go_simp
      try simp only [Act.put, List.setIfInBounds_toArray, List.set_cons_zero, List.set_cons_succ]
      refine wpAnyH_take (i := 28) (oi := ⟨some _, _, _, _, _, _⟩) (v := (.agg #[.int .i64 k2, .bool b2, .bool n2, .string ⟨g2.toArray⟩, .int .i64 x2, .string ⟨s2.toArray⟩, .slice A2 l2 p2, .slice B2 m2 z2])) rfl (by kernel_rfl) (by kernel_rfl) (by kernel_rfl) (fun _ _ _ h => h) (Or.inl ⟨by rfl, ?_⟩) ht ?_
      · intro W9 hSw
        obtain ⟨⟨c0, c1, c2, c3, c4, c5, c6, c7⟩, ⟨d0, d1, d2, d3, d4, d5, d6, d7⟩, ⟨e0, e1, e2, e3, e4, e5, e6, e7⟩, ⟨f0, f1, f2, f3, f4, f5, f6, f7⟩, cb⟩ := hSw
        go_simp
      try simp only [Act.put, List.setIfInBounds_toArray, List.set_cons_zero, List.set_cons_succ]
      refine wpAnyH_ready (rs := [29]) (by kernel_rfl) (by simp) ?_
      refine AllReadyH.cons (o := ⟨some _, _, _, _, _, _⟩) rfl (fun K hK => ?_) AllReadyH.nil
      go_simp
      refine (HXB.out _ ht.2.2.2.2).mono ?_
      rintro e6 w6 ⟨rfl, hb6⟩
      have hs : VFour W7 (wc.heap.size + 1) w1.heap.size w3.heap.size w7.heap.size (.int .i64 4) (.bool false) (.bool false) (.string ⟨#[]⟩) (.int .i64 0) (.string ⟨#[]⟩) (.slice (some ⟨wc.heap.size, 0, none⟩) 2 2) (.slice none 0 0) (.int .i64 k1) (.bool b1) (.bool n1) (.string ⟨g1.toArray⟩) (.int .i64 x1) (.string ⟨s1.toArray⟩) (.slice A1 l1 p1) (.slice B1 m1 z1) (.int .i64 k2) (.bool b2) (.bool n2) (.string ⟨g2.toArray⟩) (.int .i64 x2) (.string ⟨s2.toArray⟩) (.slice A2 l2 p2) (.slice B2 m2 z2) (.int .i64 k7) (.bool b7) (.bool n7) (.string ⟨g7.toArray⟩) (.int .i64 x7) (.string ⟨s7.toArray⟩) (.slice A7 l7 p7) (.slice B7 m7 z7) w6 := VFour.on ht hb6
      clear hb6 ht
      go_wp2_with fail
      refine hK.out _ _ hs (fun ht => ?_)
      clear hK K hs
      try simp only [Act.put, List.setIfInBounds_toArray, List.set_cons_zero, List.set_cons_succ]
      refine wpAnyH_take (i := 30) (oi := ⟨some _, _, _, _, _, _⟩) (v := (.bool true)) rfl (by kernel_rfl) (by kernel_rfl) (by kernel_rfl) (fun _ _ _ h => h) (Or.inl ⟨by rfl, ?_⟩) ht ?_
      · intro W9 hSw
        obtain ⟨⟨c0, c1, c2, c3, c4, c5, c6, c7⟩, ⟨d0, d1, d2, d3, d4, d5, d6, d7⟩, ⟨e0, e1, e2, e3, e4, e5, e6, e7⟩, ⟨f0, f1, f2, f3, f4, f5, f6, f7⟩, cb⟩ := hSw
        go_simp
      try simp only [Act.put, List.setIfInBounds_toArray, List.set_cons_zero, List.set_cons_succ]
      refine wpAnyH_take (i := 31) (oi := ⟨some _, _, _, _, _, _⟩) (v := (.bool true)) rfl (by kernel_rfl) (by kernel_rfl) (by kernel_rfl) (fun _ _ _ h => h) (Or.inl ⟨by rfl, ?_⟩) ht ?_
      · intro W9 hSw
        obtain ⟨⟨c0, c1, c2, c3, c4, c5, c6, c7⟩, ⟨d0, d1, d2, d3, d4, d5, d6, d7⟩, ⟨e0, e1, e2, e3, e4, e5, e6, e7⟩, ⟨f0, f1, f2, f3, f4, f5, f6, f7⟩, cb⟩ := hSw
        go_simp
      try simp only [Act.put, List.setIfInBounds_toArray, List.set_cons_zero, List.set_cons_succ]
      refine wpAnyH_done (by kernel_rfl) ?_ _
      have hbl := HBF.out.trans (ht.2.2.2.2.mono HBF.out.size)
      clear ht hw1 hw2 hw3
      go_wp2
      go_ret
      exact ⟨rfl, hbl⟩

end Go.Proofs.YtfconmjgedaifaaDoor
