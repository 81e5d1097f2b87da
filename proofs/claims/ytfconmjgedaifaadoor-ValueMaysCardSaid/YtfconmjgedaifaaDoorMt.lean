/- Mt: Rk Rl Rm, in one text. -/
import Derived.Test.YtfconmjgedaifaaDoorMs
import Derived.Test.YtfconmjgedaifaaDoorRg
import Derived.Test.YtfconmjgedaifaaDoorMr
import Derived.Test.YtfconmjgedaifaaDoorMe
import Derived.Test.YtfconmjgedaifaaDoorMf
import Derived.Test.YtfconmjgedaifaaDoorMg
import Derived.Deep.RegionHeld3
/- The walks of layer 3: up. -/
namespace Go.Proofs.YtfconmjgedaifaaDoor
open Go.RowKit Js

/-- An empty array as it stands in a slot. -/
abbrev arr0 (k : Int) : Value := .agg #[.int .i64 k, .bool false, .bool false, .string ⟨#[]⟩, .int .i64 0, .string ⟨#[]⟩, .slice none 0 0, .slice none 0 0]
theorem arr0_in (c : Cl) (k : Int) : (Vl.mk k false Nm.Num.zero [] [] []).In c (arr0 k) := leaf_in c k false Nm.Num.zero []
theorem arr0_slim (k : Int) (N : Nat) : (Vl.mk k false Nm.Num.zero [] [] []).slim N := by simp [Vl.slim, slimL, slimM, Nm.Num.zero]

set_option linter.unusedVariables false in
set_option linter.unusedSimpArgs false in
set_option maxRecDepth 100000 in
set_option maxHeartbeats 4000000 in
theorem up3_any (w : World) (hT : Tabs w) : Calls Tryd.prog 30 #[] w fun e w' => e = .returned (.bool true) ∧ Below w.heap.size w w' := by
  have hb0 : Below w.heap.size w (w.alloc (.cells #[.int .i64 4, .bool false, .bool false, .string ⟨#[]⟩, .int .i64 0, .string ⟨#[]⟩, .slice none 0 0, .slice none 0 0] 52)) := (Below.refl _ _).alloc (Nat.le_refl _) _
  have HX := Lib.hid (Blk.new w 52 #[.int .i64 4, .bool false, .bool false, .string ⟨#[]⟩, .int .i64 0, .string ⟨#[]⟩, .slice none 0 0, .slice none 0 0])
  have HB0 := Lib.hid hb0
  have HT0 := Lib.hid (hT.on hb0)
  have HM4 := Lib.hid (fun W hT => show Calls Tryd.prog 35 #[arr0 4] W fun e w' => e = .returned (.bool true) ∧ Below W.heap.size W w' from may_any (.mk 4 false Nm.Num.zero [] [] []) _ W hT (arr0_in _ 4) (by decide) (arr0_slim _ _))
  have HM6 := Lib.hid (fun W hT => show Calls Tryd.prog 35 #[arr0 6] W fun e w' => e = .returned (.bool false) ∧ Below W.heap.size W w' from may_any (.mk 6 false Nm.Num.zero [] [] []) _ W hT (arr0_in _ 6) (by decide) (arr0_slim _ _))
  have HSZ := Lib.hid (fun W => show Calls Tryd.prog 37 #[arr0 4] W fun e w' => e = .returned (.int .i64 1) ∧ Below W.heap.size W w' from size_any (.mk 4 false Nm.Num.zero [] [] []) _ W (arr0_in _ 4) (by decide))
  have HDP := Lib.hid (fun W => show Calls Tryd.prog 39 #[arr0 4] W fun e w' => e = .returned (.int .i64 1) ∧ Below W.heap.size W w' from depth_any (.mk 4 false Nm.Num.zero [] [] []) _ W (arr0_in _ 4) (by decide))
  have HSM := Lib.hid (fun W => show Calls Tryd.prog 36 #[arr0 4, arr0 4] W fun e w' => e = .returned (.bool true) ∧ Below W.heap.size W w' by
    have := same_any (.mk 4 false Nm.Num.zero [] [] []) (.mk 4 false Nm.Num.zero [] [] []) _ _ W (by decide) (by decide) (arr0_in _ 4) (arr0_in _ 4)
    rwa [same_refl] at this)
  clear hb0 hT
  go_enter Tryd.func30, Tryd.ntmps30
  go_upto_region 2 with (fail)
  generalize w.alloc (.cells #[.int .i64 4, .bool false, .bool false, .string ⟨#[]⟩, .int .i64 0, .string ⟨#[]⟩, .slice none 0 0, .slice none 0 0] 52) = W at *
  obtain ⟨c0, c1, c2, c3, c4, c5, c6, c7⟩ := HX.out.eight
  go_wp2_with fail
  refine (HM4.out _ HT0.out).mono ?_
  rintro e1 w1 ⟨rfl, hb1⟩
  have HB1 := Lib.hid (HB0.out.trans (hb1.mono HB0.out.size))
  have HT1 := Lib.hid (HT0.out.on hb1)
  have HX1 := Lib.hid (HX.out.on hb1)
  clear hb1 c0 c1 c2 c3 c4 c5 c6 c7 HB0 HT0 HX HM4
  obtain ⟨c0, c1, c2, c3, c4, c5, c6, c7⟩ := HX1.out.eight
  go_wp2_with fail
  refine (HM6.out _ HT1.out).mono ?_
  rintro e1 w2 ⟨rfl, hb1⟩
  have HB2 := Lib.hid (HB1.out.trans (hb1.mono HB1.out.size))
  have HX2 := Lib.hid (HX1.out.on hb1)
  clear hb1 c0 c1 c2 c3 c4 c5 c6 c7 HB1 HT1 HX1 HM6
  obtain ⟨c0, c1, c2, c3, c4, c5, c6, c7⟩ := HX2.out.eight
  go_wp2_with fail
  refine (HSZ.out _).mono ?_
  rintro e1 w3 ⟨rfl, hb1⟩
  have HB3 := Lib.hid (HB2.out.trans (hb1.mono HB2.out.size))
  have HX3 := Lib.hid (HX2.out.on hb1)
  clear hb1 c0 c1 c2 c3 c4 c5 c6 c7 HB2 HX2 HSZ
  obtain ⟨c0, c1, c2, c3, c4, c5, c6, c7⟩ := HX3.out.eight
  go_wp2_with fail
  refine (HDP.out _).mono ?_
  rintro e1 w4 ⟨rfl, hb1⟩
  have HB4 := Lib.hid (HB3.out.trans (hb1.mono HB3.out.size))
  have HX4 := Lib.hid (HX3.out.on hb1)
  clear hb1 c0 c1 c2 c3 c4 c5 c6 c7 HB3 HX3 HDP
  obtain ⟨c0, c1, c2, c3, c4, c5, c6, c7⟩ := HX4.out.eight
  go_wp2_with fail
  refine (HSM.out _).mono ?_
  rintro e1 w5 ⟨rfl, hb1⟩
  have HB5 := Lib.hid (HB4.out.trans (hb1.mono HB4.out.size))
  clear hb1 c0 c1 c2 c3 c4 c5 c6 c7 HB4 HX4 HSM
  go_wp2_with fail
  go_ret
  exact ⟨rfl, HB5.out⟩

end Go.Proofs.YtfconmjgedaifaaDoor

/- What Value of the laws tells, in the words that the laws' walks want; values in blocks. -/
namespace Go.Proofs.YtfconmjgedaifaaDoor
open Go.RowKit Js

/-- A value that was read of a text that isn't long. -/
def Fine (v : Vl) : Prop := v.may = true ∧ v.size ≤ 2000 ∧ v.depth ≤ 32 ∧ v.levels ≤ 32 ∧ v.slim 80000
theorem fine_of {s : List UInt8} {v : Vl} {u : List UInt8} (hs : s.length ≤ 2000) (h : Ps.parse s = .ok v u) : Fine v := by
  have ht := Ps.parse_told s
  rw [h] at ht
  have hl := may_levels v ht.1.1
  have h1 := ht.1.2
  have h2 := ht.2
  exact ⟨ht.1.1, by omega, by omega, by omega, Ps.parse_slim h⟩
mutual
theorem slim_mono {N M : Nat} (h : N ≤ M) : ∀ v : Vl, v.slim N → v.slim M
  | .mk k b n s l m, hv => by
    simp only [Vl.slim] at hv ⊢
    exact ⟨by omega, by omega, slimL_mono h l hv.2.2.1, slimM_mono h m hv.2.2.2⟩
theorem slimL_mono {N M : Nat} (h : N ≤ M) : ∀ l : List Vl, slimL N l → slimL M l
  | [], _ => trivial
  | v :: l, hv => by
    simp only [slimL] at hv ⊢
    exact ⟨slim_mono h v hv.1, slimL_mono h l hv.2⟩
theorem slimM_mono {N M : Nat} (h : N ≤ M) : ∀ m : List Js.Mem, slimM N m → slimM M m
  | [], _ => trivial
  | p :: m, hv => by
    simp only [slimM] at hv ⊢
    exact ⟨slimP_mono h p hv.1, slimM_mono h m hv.2⟩
theorem slimP_mono {N M : Nat} (h : N ≤ M) : ∀ p : Js.Mem, slimP N p → slimP M p
  | (k, v), hv => by
    simp only [slimP] at hv ⊢
    exact ⟨by omega, slim_mono h v hv.2⟩
end

/-- What Value tells. -/
def Told (w : World) (e : Ending) (w' : World) : Prop :=
  ∃ v x c, e = .returned (.tuple #[x, .int .i64 c]) ∧ v.In w'.cell? x ∧ Below w.heap.size w w' ∧ (c = 0 ∨ (c = 1 ∧ Fine v))
theorem value_told (s : ByteArray) (hs : s.size ≤ 1000000000000000000) (w : World) : Calls Tryd.prog 31 #[.string s] w (Told w) := by
  refine (value_law s hs w).mono ?_
  rintro e w' ⟨hb, ⟨x, rfl, hin⟩ | ⟨v, u, x, hsz, hp, rfl, hin⟩⟩
  · exact ⟨_, x, 0, rfl, In.keep (le_on _ _) _ _ hin, hb, .inl rfl⟩
  · exact ⟨v, x, 1, rfl, In.keep (le_on _ _) _ _ hin, hb, .inr ⟨rfl, fine_of (by rw [← Lib.size_eq]; exact hsz) hp⟩⟩

/-- A value's parts stand in a block. -/
def At8 (w : World) (g : Nat) (c0 c1 c2 c3 c4 c5 c6 c7 : Value) : Prop :=
  w.cell? ⟨g, 0, none⟩ = some c0 ∧ w.cell? ⟨g, 1, none⟩ = some c1 ∧ w.cell? ⟨g, 2, none⟩ = some c2 ∧ w.cell? ⟨g, 3, none⟩ = some c3 ∧
  w.cell? ⟨g, 4, none⟩ = some c4 ∧ w.cell? ⟨g, 5, none⟩ = some c5 ∧ w.cell? ⟨g, 6, none⟩ = some c6 ∧ w.cell? ⟨g, 7, none⟩ = some c7
section
variable {w w' : World} {g : Nat} {c0 c1 c2 c3 c4 c5 c6 c7 : Value}
theorem At8.on (h : At8 w g c0 c1 c2 c3 c4 c5 c6 c7) (hb : Below w.heap.size w w') : At8 w' g c0 c1 c2 c3 c4 c5 c6 c7 := by
  have hl : g < w.heap.size := World.block_lt_of_cell? w _ h.1
  have hc : ∀ j, w'.cell? ⟨g, j, none⟩ = w.cell? ⟨g, j, none⟩ := fun j => hb.cell (p := ⟨g, j, none⟩) hl
  obtain ⟨h0, h1, h2, h3, h4, h5, h6, h7⟩ := h
  exact ⟨(hc 0).trans h0, (hc 1).trans h1, (hc 2).trans h2, (hc 3).trans h3, (hc 4).trans h4, (hc 5).trans h5, (hc 6).trans h6, (hc 7).trans h7⟩
theorem Blk.at8 {t : TypeId} (h : Blk w g t #[c0, c1, c2, c3, c4, c5, c6, c7]) : At8 w g c0 c1 c2 c3 c4 c5 c6 c7 := h.eight
end

/-- Same of two values, wherever they stand. -/
theorem same_on {v v' : Vl} {x x' : Value} {W : World} (hv : v.may = true) (hv' : v'.may = true) (hx : v.In W.cell? x) (hx' : v'.In W.cell? x') {q : Bool} (hq : v.same v' = q) :
    ∀ w', Below W.heap.size W w' → Calls Tryd.prog 36 #[x, x'] w' fun e w'' => e = .returned (.bool q) ∧ Below w'.heap.size w' w'' := fun w' hb => by
  subst hq
  exact same_any v v' x x' w' hv hv' (In.keep (le_below hb) _ _ hx) (In.keep (le_below hb) _ _ hx')
theorem size_on {v : Vl} {x : Value} {W : World} (hv : v.size ≤ 1000000000000) (hx : v.In W.cell? x) {n : Nat} (hn : v.size = n) :
    ∀ w', Below W.heap.size W w' → Calls Tryd.prog 37 #[x] w' fun e w'' => e = .returned (.int .i64 n) ∧ Below w'.heap.size w' w'' := fun w' hb => by
  subst hn
  exact size_any v x w' (In.keep (le_below hb) _ _ hx) hv
theorem depth_on {v : Vl} {x : Value} {W : World} (hv : v.levels ≤ 1000000000000) (hx : v.In W.cell? x) {n : Nat} (hn : v.depth = n) :
    ∀ w', Below W.heap.size W w' → Calls Tryd.prog 39 #[x] w' fun e w'' => e = .returned (.int .i64 n) ∧ Below w'.heap.size w' w'' := fun w' hb => by
  subst hn
  exact depth_any v x w' (In.keep (le_below hb) _ _ hx) hv
theorem refSame_on {v v' : Vl} {x x' : Value} {W : World} (hx : v.In W.cell? x) (hx' : v'.In W.cell? x') {q : Bool} (hq : v.same v' = q) :
    ∀ w', Below W.heap.size W w' → Calls Tryd.prog 34 #[x, x'] w' fun e w'' => e = .returned (.bool q) ∧ Below w'.heap.size w' w'' := fun w' hb => by
  subst hq
  exact refSame_any v v' x x' w' (In.keep (le_below hb) _ _ hx) (In.keep (le_below hb) _ _ hx')
theorem refSize_on {v : Vl} {x : Value} {W : World} (hv : v.size ≤ 1000000000000) (hx : v.In W.cell? x) {n : Nat} (hn : v.size = n) :
    ∀ w', Below W.heap.size W w' → Calls Tryd.prog 38 #[x] w' fun e w'' => e = .returned (.int .i64 n) ∧ Below w'.heap.size w' w'' := fun w' hb => by
  subst hn
  exact refSize_any v x w' (In.keep (le_below hb) _ _ hx) hv
theorem refDepth_on {v : Vl} {x : Value} {W : World} (hv : v.levels ≤ 1000000000000) (hx : v.In W.cell? x) {n : Nat} (hn : v.depth = n) :
    ∀ w', Below W.heap.size W w' → Calls Tryd.prog 40 #[x] w' fun e w'' => e = .returned (.int .i64 n) ∧ Below w'.heap.size w' w'' := fun w' hb => by
  subst hn
  exact refDepth_any v x w' (In.keep (le_below hb) _ _ hx) hv
theorem may_on {v : Vl} {x : Value} {W : World} (hT : Tabs W) (hlv : v.levels ≤ 65536) (hs : v.slim 100000000000) (hx : v.In W.cell? x) {q : Bool} (hq : v.may = q) :
    ∀ w', Below W.heap.size W w' → Calls Tryd.prog 35 #[x] w' fun e w'' => e = .returned (.bool q) ∧ Below w'.heap.size w' w'' := fun w' hb => by
  subst hq
  exact may_any v x w' (hT.on hb) (In.keep (le_below hb) _ _ hx) hlv hs

end Go.Proofs.YtfconmjgedaifaaDoor

/- The walks of layer 3: ValueTells. -/
namespace Go.Proofs.YtfconmjgedaifaaDoor
open Go.RowKit Js

/-- Two values in their blocks; what is older is as it was. -/
def VTwo (W : World) (g h : Nat) (a0 a1 a2 a3 a4 a5 a6 a7 b0 b1 b2 b3 b4 b5 b6 b7 : Value) (w' : World) : Prop :=
  At8 w' g a0 a1 a2 a3 a4 a5 a6 a7 ∧ At8 w' h b0 b1 b2 b3 b4 b5 b6 b7 ∧ Below W.heap.size W w'
theorem VTwo.on {W : World} {g h : Nat} {a0 a1 a2 a3 a4 a5 a6 a7 b0 b1 b2 b3 b4 b5 b6 b7 : Value} {w' w'' : World} (H : VTwo W g h a0 a1 a2 a3 a4 a5 a6 a7 b0 b1 b2 b3 b4 b5 b6 b7 w') (hb : Below w'.heap.size w' w'') : VTwo W g h a0 a1 a2 a3 a4 a5 a6 a7 b0 b1 b2 b3 b4 b5 b6 b7 w'' :=
  ⟨H.1.on hb, H.2.1.on hb, H.2.2.trans (hb.mono H.2.2.size)⟩

set_option linter.unusedVariables false in
set_option linter.unusedSimpArgs false in
set_option maxRecDepth 100000 in
set_option maxHeartbeats 4000000 in
theorem valueTells_any (s t : ByteArray) (key : List UInt8) (w : World) (hT : Tabs w) (hs : s.size ≤ 1000000000000000000) (ht : t.size ≤ 1000000000000000000) (hk : key.length ≤ 1000000000000000000) :
    Calls Tryd.prog 7 #[.string s, .string t, .string ⟨key.toArray⟩] w fun e w' => e = .returned (.bool true) ∧ Below w.heap.size w w' := by
  have HT := Lib.hid hT
  clear hT
  go_enter Tryd.func7, Tryd.ntmps7
  go_wp2_with fail
  refine (up3_any _ HT.out).mono ?_
  rintro e w0 ⟨rfl, hb0⟩
  have HB0 := Lib.hid hb0
  clear hb0
  go_wp2_with fail
  refine (value_told s hs _).mono ?_
  rintro e w1 ⟨va, xa, ca, rfl, hina, hb1, hca⟩
  obtain ⟨k1, b1, n1, g1, x1, s1, A1, l1, p1, B1, m1, z1, rfl⟩ := In.cells hina
  have HB1 := Lib.hid (HB0.out.trans (hb1.mono HB0.out.size))
  have HCA := Lib.hid hca
  have hz1 : w1.heap.size < (w1.alloc (.cells #[.int .i64 k1, .bool b1, .bool n1, .string ⟨g1.toArray⟩, .int .i64 x1, .string ⟨s1.toArray⟩, .slice A1 l1 p1, .slice B1 m1 z1] 52)).heap.size := by simp
  have HA1 := Lib.hid (Blk.new w1 52 #[.int .i64 k1, .bool b1, .bool n1, .string ⟨g1.toArray⟩, .int .i64 x1, .string ⟨s1.toArray⟩, .slice A1 l1 p1, .slice B1 m1 z1])
  have HNA := Lib.hid (In.keep (le_alloc w1 (.cells #[.int .i64 k1, .bool b1, .bool n1, .string ⟨g1.toArray⟩, .int .i64 x1, .string ⟨s1.toArray⟩, .slice A1 l1 p1, .slice B1 m1 z1] 52)) _ _ hina)
  have HB2 := Lib.hid (HB1.out.alloc HB1.out.size (.cells #[.int .i64 k1, .bool b1, .bool n1, .string ⟨g1.toArray⟩, .int .i64 x1, .string ⟨s1.toArray⟩, .slice A1 l1 p1, .slice B1 m1 z1] 52))
  clear hina hb1 hca HB0 HB1
  go_upto_region 3 with (fail)
  generalize w1.alloc (.cells #[.int .i64 k1, .bool b1, .bool n1, .string ⟨g1.toArray⟩, .int .i64 x1, .string ⟨s1.toArray⟩, .slice A1 l1 p1, .slice B1 m1 z1] 52) = w2 at *
  go_wp2_with fail
  refine (value_told t ht _).mono ?_
  rintro e w3 ⟨vb, xb, cb, rfl, hinb, hb3, hcb⟩
  obtain ⟨k2, b2, n2, g2, x2, s2, A2, l2, p2, B2, m2, z2, rfl⟩ := In.cells hinb
  have HCB := Lib.hid hcb
  have HA3 := Lib.hid (HA1.out.on hb3)
  have HNA3 := Lib.hid (In.keep (le_below hb3) _ _ HNA.out)
  have HB3 := Lib.hid (HB2.out.trans (hb3.mono HB2.out.size))
  have hz3 := hb3.size
  have hlt13 : w1.heap.size < w3.heap.size := by omega
  have HA4 := Lib.hid (HA3.out.alloc (.cells #[.int .i64 k2, .bool b2, .bool n2, .string ⟨g2.toArray⟩, .int .i64 x2, .string ⟨s2.toArray⟩, .slice A2 l2 p2, .slice B2 m2 z2] 52))
  have HBB4 := Lib.hid (Blk.new w3 52 #[.int .i64 k2, .bool b2, .bool n2, .string ⟨g2.toArray⟩, .int .i64 x2, .string ⟨s2.toArray⟩, .slice A2 l2 p2, .slice B2 m2 z2])
  have HNA4 := Lib.hid (In.keep (le_alloc w3 (.cells #[.int .i64 k2, .bool b2, .bool n2, .string ⟨g2.toArray⟩, .int .i64 x2, .string ⟨s2.toArray⟩, .slice A2 l2 p2, .slice B2 m2 z2] 52)) _ _ HNA3.out)
  have HNB4 := Lib.hid (In.keep (le_alloc w3 (.cells #[.int .i64 k2, .bool b2, .bool n2, .string ⟨g2.toArray⟩, .int .i64 x2, .string ⟨s2.toArray⟩, .slice A2 l2 p2, .slice B2 m2 z2] 52)) _ _ hinb)
  have HB4 := Lib.hid (HB3.out.alloc HB3.out.size (.cells #[.int .i64 k2, .bool b2, .bool n2, .string ⟨g2.toArray⟩, .int .i64 x2, .string ⟨s2.toArray⟩, .slice A2 l2 p2, .slice B2 m2 z2] 52))
  clear hinb hb3 hcb HA1 HNA HB2 HA3 HNA3 HB3 hz1 hz3
  go_upto_region 4 with (fail)
  generalize w3.alloc (.cells #[.int .i64 k2, .bool b2, .bool n2, .string ⟨g2.toArray⟩, .int .i64 x2, .string ⟨s2.toArray⟩, .slice A2 l2 p2, .slice B2 m2 z2] 52) = W at *
  rcases HCA.out with rfl | ⟨rfl, hfa⟩
  · go_wp2_with fail
    go_ret
    exact ⟨rfl, HB4.out⟩
  rcases HCB.out with rfl | ⟨rfl, hfb⟩
  · go_wp2_with fail
    go_ret
    exact ⟨rfl, HB4.out⟩
  by_cases hkl : 500 < key.length
  · have hkd : decide ((500 : Int) < (key.length : Int)) = true := by simp; omega
    go_wp2_with fail
    go_ret
    exact ⟨rfl, HB4.out⟩
  have hkd : decide ((500 : Int) < (key.length : Int)) = false := by simp; omega
  -- BEHIND the tests
  obtain ⟨a0, a1, a2, a3, a4, a5, a6, a7⟩ := HA4.out.at8
  have HF1 := Lib.hid (fun x W (hx : va.In W.cell? x) => find_any va key x W hfa.1 (by have := hfa.2.1; omega) hx)
  have HF2 := Lib.hid (fun x W (hx : va.In W.cell? x) => refFind_any va key x W hx)
  have HFA := Lib.hid hfa
  have HFB := Lib.hid hfb
  clear hfa hfb HCA HCB
  go_wp2_with fail
  refine (HF1.out _ _ HNA4.out).mono ?_
  generalize va.find key = r at HF1 HF2 ⊢
  rintro e w5 ⟨x5, rfl, hin5, hb5⟩
  obtain ⟨k3, b3, n3, g3, x3, s3, A3, l3, p3, B3, m3, z3, rfl⟩ := In.cells hin5
  have HB5 := Lib.hid (HB4.out.trans (hb5.mono HB4.out.size))
  have HA5 := Lib.hid ((HA4.out.on hb5).alloc (.cells #[.int .i64 k3, .bool b3, .bool n3, .string ⟨g3.toArray⟩, .int .i64 x3, .string ⟨s3.toArray⟩, .slice A3 l3 p3, .slice B3 m3 z3] 52))
  have HBB5 := Lib.hid ((HBB4.out.on hb5).alloc (.cells #[.int .i64 k3, .bool b3, .bool n3, .string ⟨g3.toArray⟩, .int .i64 x3, .string ⟨s3.toArray⟩, .slice A3 l3 p3, .slice B3 m3 z3] 52))
  have HNA5 := Lib.hid (In.keep ((le_below hb5).trans (le_alloc w5 (.cells #[.int .i64 k3, .bool b3, .bool n3, .string ⟨g3.toArray⟩, .int .i64 x3, .string ⟨s3.toArray⟩, .slice A3 l3 p3, .slice B3 m3 z3] 52))) _ _ HNA4.out)
  have HNB5 := Lib.hid (In.keep ((le_below hb5).trans (le_alloc w5 (.cells #[.int .i64 k3, .bool b3, .bool n3, .string ⟨g3.toArray⟩, .int .i64 x3, .string ⟨s3.toArray⟩, .slice A3 l3 p3, .slice B3 m3 z3] 52))) _ _ HNB4.out)
  have HX5 := Lib.hid (Blk.new w5 52 #[.int .i64 k3, .bool b3, .bool n3, .string ⟨g3.toArray⟩, .int .i64 x3, .string ⟨s3.toArray⟩, .slice A3 l3 p3, .slice B3 m3 z3])
  have HNX5 := Lib.hid (In.keep (le_alloc w5 (.cells #[.int .i64 k3, .bool b3, .bool n3, .string ⟨g3.toArray⟩, .int .i64 x3, .string ⟨s3.toArray⟩, .slice A3 l3 p3, .slice B3 m3 z3] 52)) _ _ hin5)
  have HB6 := Lib.hid (HB5.out.alloc HB5.out.size (.cells #[.int .i64 k3, .bool b3, .bool n3, .string ⟨g3.toArray⟩, .int .i64 x3, .string ⟨s3.toArray⟩, .slice A3 l3 p3, .slice B3 m3 z3] 52))
  clear hin5 hb5 HA4 HBB4 HNA4 HNB4 HB4 HB5 a0 a1 a2 a3 a4 a5 a6 a7
  go_upto_region 7 with (fail)
  generalize w5.alloc (.cells #[.int .i64 k3, .bool b3, .bool n3, .string ⟨g3.toArray⟩, .int .i64 x3, .string ⟨s3.toArray⟩, .slice A3 l3 p3, .slice B3 m3 z3] 52) = w6 at *
  obtain ⟨a0, a1, a2, a3, a4, a5, a6, a7⟩ := HA5.out.at8
  go_wp2_with fail
  refine (HF2.out _ _ HNA5.out).mono ?_
  rintro e w7 ⟨x7, rfl, hin7, hb7⟩
  obtain ⟨k4, b4, n4, g4, x4, s4, A4, l4, p4, B4, m4, z4, rfl⟩ := In.cells hin7
  have HB7 := Lib.hid (HB6.out.trans (hb7.mono HB6.out.size))
  have hz5 : w5.heap.size < w6.heap.size := HX5.out.lt
  have hz7 := hb7.size
  have hlt57 : w5.heap.size < w7.heap.size := by omega
  have hlt17 : w1.heap.size < w7.heap.size := by have := HA5.out.lt; omega
  have hlt37 : w3.heap.size < w7.heap.size := by have := HBB5.out.lt; omega
  have HA7 := Lib.hid ((HA5.out.on hb7).alloc (.cells #[.int .i64 k4, .bool b4, .bool n4, .string ⟨g4.toArray⟩, .int .i64 x4, .string ⟨s4.toArray⟩, .slice A4 l4 p4, .slice B4 m4 z4] 52))
  have HBB7 := Lib.hid ((HBB5.out.on hb7).alloc (.cells #[.int .i64 k4, .bool b4, .bool n4, .string ⟨g4.toArray⟩, .int .i64 x4, .string ⟨s4.toArray⟩, .slice A4 l4 p4, .slice B4 m4 z4] 52))
  have HNA7 := Lib.hid (In.keep ((le_below hb7).trans (le_alloc w7 (.cells #[.int .i64 k4, .bool b4, .bool n4, .string ⟨g4.toArray⟩, .int .i64 x4, .string ⟨s4.toArray⟩, .slice A4 l4 p4, .slice B4 m4 z4] 52))) _ _ HNA5.out)
  have HNB7 := Lib.hid (In.keep ((le_below hb7).trans (le_alloc w7 (.cells #[.int .i64 k4, .bool b4, .bool n4, .string ⟨g4.toArray⟩, .int .i64 x4, .string ⟨s4.toArray⟩, .slice A4 l4 p4, .slice B4 m4 z4] 52))) _ _ HNB5.out)
  have HX7 := Lib.hid ((HX5.out.on hb7).alloc (.cells #[.int .i64 k4, .bool b4, .bool n4, .string ⟨g4.toArray⟩, .int .i64 x4, .string ⟨s4.toArray⟩, .slice A4 l4 p4, .slice B4 m4 z4] 52))
  have HNX7 := Lib.hid (In.keep ((le_below hb7).trans (le_alloc w7 (.cells #[.int .i64 k4, .bool b4, .bool n4, .string ⟨g4.toArray⟩, .int .i64 x4, .string ⟨s4.toArray⟩, .slice A4 l4 p4, .slice B4 m4 z4] 52))) _ _ HNX5.out)
  have HY7 := Lib.hid (Blk.new w7 52 #[.int .i64 k4, .bool b4, .bool n4, .string ⟨g4.toArray⟩, .int .i64 x4, .string ⟨s4.toArray⟩, .slice A4 l4 p4, .slice B4 m4 z4])
  have HNY7 := Lib.hid (In.keep (le_alloc w7 (.cells #[.int .i64 k4, .bool b4, .bool n4, .string ⟨g4.toArray⟩, .int .i64 x4, .string ⟨s4.toArray⟩, .slice A4 l4 p4, .slice B4 m4 z4] 52)) _ _ hin7)
  have HB8 := Lib.hid (HB7.out.alloc HB7.out.size (.cells #[.int .i64 k4, .bool b4, .bool n4, .string ⟨g4.toArray⟩, .int .i64 x4, .string ⟨s4.toArray⟩, .slice A4 l4 p4, .slice B4 m4 z4] 52))
  clear hin7 hb7 HA5 HBB5 HNA5 HNB5 HB6 HB7 HX5 HNX5 HF1 HF2 hz5 hz7 a0 a1 a2 a3 a4 a5 a6 a7
  go_upto_region 8 with (fail)
  generalize w7.alloc (.cells #[.int .i64 k4, .bool b4, .bool n4, .string ⟨g4.toArray⟩, .int .i64 x4, .string ⟨s4.toArray⟩, .slice A4 l4 p4, .slice B4 m4 z4] 52) = w8 at *
  have HSX := Lib.hid (refSame_on HNX7.out HNY7.out (same_refl _))
  obtain ⟨a0, a1, a2, a3, a4, a5, a6, a7⟩ := HX7.out.at8
  obtain ⟨d0, d1, d2, d3, d4, d5, d6, d7⟩ := HY7.out.at8
  go_wp2_with fail
  refine (HSX.out _ (Below.refl _ _)).mono ?_
  rintro e w9 ⟨rfl, hb9⟩
  have HB9 := Lib.hid (HB8.out.trans (hb9.mono HB8.out.size))
  have HA9 := Lib.hid (HA7.out.on hb9)
  have HBB9 := Lib.hid (HBB7.out.on hb9)
  have HNA9 := Lib.hid (In.keep (le_below hb9) _ _ HNA7.out)
  have HNB9 := Lib.hid (In.keep (le_below hb9) _ _ HNB7.out)
  clear hb9 HA7 HBB7 HNA7 HNB7 HX7 HNX7 HY7 HNY7 HB8 HSX a0 a1 a2 a3 a4 a5 a6 a7 d0 d1 d2 d3 d4 d5 d6 d7
  obtain ⟨a0, a1, a2, a3, a4, a5, a6, a7⟩ := HA9.out.at8
  obtain ⟨d0, d1, d2, d3, d4, d5, d6, d7⟩ := HBB9.out.at8
  obtain ⟨q, hq⟩ : ∃ q, va.same vb = q := ⟨_, rfl⟩
  have HQ := Lib.hid hq
  clear hq
  have HSR := Lib.hid (refSame_on HNA9.out HNB9.out HQ.out)
  go_wp2_with fail
  refine (HSR.out _ (Below.refl _ _)).mono ?_
  rintro e W ⟨rfl, hb10⟩
  have HB10 := Lib.hid (HB9.out.trans (hb10.mono HB9.out.size))
  have hA := (HA9.out.on hb10).at8
  have hB := (HBB9.out.on hb10).at8
  have HNA := Lib.hid (In.keep (le_below hb10) _ _ HNA9.out)
  have HNB := Lib.hid (In.keep (le_below hb10) _ _ HNB9.out)
  have HTW := Lib.hid (HT.out.on HB10.out)
  have hF : VTwo W w1.heap.size w3.heap.size (.int .i64 k1) (.bool b1) (.bool n1) (.string ⟨g1.toArray⟩) (.int .i64 x1) (.string ⟨s1.toArray⟩) (.slice A1 l1 p1) (.slice B1 m1 z1) (.int .i64 k2) (.bool b2) (.bool n2) (.string ⟨g2.toArray⟩) (.int .i64 x2) (.string ⟨s2.toArray⟩) (.slice A2 l2 p2) (.slice B2 m2 z2) W := ⟨hA, hB, Below.refl _ _⟩
  have HFIN := Lib.hid (show VTwo W w1.heap.size w3.heap.size (.int .i64 k1) (.bool b1) (.bool n1) (.string ⟨g1.toArray⟩) (.int .i64 x1) (.string ⟨s1.toArray⟩) (.slice A1 l1 p1) (.slice B1 m1 z1) (.int .i64 k2) (.bool b2) (.bool n2) (.string ⟨g2.toArray⟩) (.int .i64 x2) (.string ⟨s2.toArray⟩) (.slice A2 l2 p2) (.slice B2 m2 z2) W.drew from ⟨hA, hB, (Below.refl _ _).drew⟩)
  have hfa := HFA.out
  have hfb := HFB.out
  have HMAY := Lib.hid (may_on HTW.out (by have := hfa.2.2.2.1; omega) (slim_mono (by omega) _ hfa.2.2.2.2) HNA.out hfa.1)
  have HSAME := Lib.hid (same_on hfa.1 hfb.1 HNA.out HNB.out HQ.out)
  have HSIZE := Lib.hid (size_on (by have := hfa.2.1; omega) HNA.out rfl)
  have HRSIZE := Lib.hid (refSize_on (by have := hfa.2.1; omega) HNA.out rfl)
  have HDEPTH := Lib.hid (depth_on (by have := hfa.2.2.2.1; omega) HNA.out rfl)
  have HRDEPTH := Lib.hid (refDepth_on (by have := hfa.2.2.2.1; omega) HNA.out rfl)
  clear hb10 hA hB hF HA9 HBB9 HNA9 HNB9 HB9 HSR a0 a1 a2 a3 a4 a5 a6 a7 d0 d1 d2 d3 d4 d5 d6 d7 hfa hfb
  generalize va.size = zs at HSIZE HRSIZE
  generalize va.depth = zd at HDEPTH HRDEPTH
  go_wp2_with fail
  cases q with
  | true =>
    refine wp_region_held_drew (S := VTwo W w1.heap.size w3.heap.size (.int .i64 k1) (.bool b1) (.bool n1) (.string ⟨g1.toArray⟩) (.int .i64 x1) (.string ⟨s1.toArray⟩) (.slice A1 l1 p1) (.slice B1 m1 z1) (.int .i64 k2) (.bool b2) (.bool n2) (.string ⟨g2.toArray⟩) (.int .i64 x2) (.string ⟨s2.toArray⟩) (.slice A2 l2 p2) (.slice B2 m2 z2)) (by kernel_rfl) HFIN.out (fun ht => ?_)
    refine wpAnyH_take (i := 0) (oi := ⟨some _, _, _, _, _, _⟩) (v := (.bool true)) rfl (by kernel_rfl) (by kernel_rfl) (by kernel_rfl) (fun _ _ _ h => h) (Or.inl ⟨by rfl, ?_⟩) ht ?_
    · intro W9 hSw
      obtain ⟨⟨c0, c1, c2, c3, c4, c5, c6, c7⟩, ⟨d0, d1, d2, d3, d4, d5, d6, d7⟩, cb⟩ := hSw
      go_simp
    try simp only [Act.put, List.setIfInBounds_toArray, List.set_cons_zero, List.set_cons_succ]
    refine wpAnyH_take (i := 1) (oi := ⟨some _, _, _, _, _, _⟩) (v := (.bool true)) rfl (by kernel_rfl) (by kernel_rfl) (by kernel_rfl) (fun _ _ _ h => h) (Or.inl ⟨by rfl, ?_⟩) ht ?_
    · intro W9 hSw
      obtain ⟨⟨c0, c1, c2, c3, c4, c5, c6, c7⟩, ⟨d0, d1, d2, d3, d4, d5, d6, d7⟩, cb⟩ := hSw
      go_simp
    try simp only [Act.put, List.setIfInBounds_toArray, List.set_cons_zero, List.set_cons_succ]
    refine wpAnyH_take (i := 2) (oi := ⟨some _, _, _, _, _, _⟩) (v := (.agg #[.int .i64 k1, .bool b1, .bool n1, .string ⟨g1.toArray⟩, .int .i64 x1, .string ⟨s1.toArray⟩, .slice A1 l1 p1, .slice B1 m1 z1])) rfl (by kernel_rfl) (by kernel_rfl) (by kernel_rfl) (fun _ _ _ h => h) (Or.inl ⟨by rfl, ?_⟩) ht ?_
    · intro W9 hSw
      obtain ⟨⟨c0, c1, c2, c3, c4, c5, c6, c7⟩, ⟨d0, d1, d2, d3, d4, d5, d6, d7⟩, cb⟩ := hSw
      go_simp
    try simp only [Act.put, List.setIfInBounds_toArray, List.set_cons_zero, List.set_cons_succ]
    refine wpAnyH_ready (rs := [3]) (by kernel_rfl) (by simp) ?_
    refine AllReadyH.cons (o := ⟨some _, _, _, _, _, _⟩) rfl (fun K hK => ?_) AllReadyH.nil
    go_simp
    refine (HMAY.out _ ht.2.2).mono ?_
    rintro e6 w6 ⟨rfl, hb6⟩
    have hs : VTwo W w1.heap.size w3.heap.size (.int .i64 k1) (.bool b1) (.bool n1) (.string ⟨g1.toArray⟩) (.int .i64 x1) (.string ⟨s1.toArray⟩) (.slice A1 l1 p1) (.slice B1 m1 z1) (.int .i64 k2) (.bool b2) (.bool n2) (.string ⟨g2.toArray⟩) (.int .i64 x2) (.string ⟨s2.toArray⟩) (.slice A2 l2 p2) (.slice B2 m2 z2) w6 := VTwo.on ht hb6
    clear hb6 ht
    go_wp2_with fail
    refine hK.out _ _ hs (fun ht => ?_)
    clear hK K hs
    try simp only [Act.put, List.setIfInBounds_toArray, List.set_cons_zero, List.set_cons_succ]
    refine wpAnyH_take (i := 4) (oi := ⟨some _, _, _, _, _, _⟩) (v := (.bool true)) rfl (by kernel_rfl) (by kernel_rfl) (by kernel_rfl) (fun _ _ _ h => h) (Or.inl ⟨by rfl, ?_⟩) ht ?_
    · intro W9 hSw
      obtain ⟨⟨c0, c1, c2, c3, c4, c5, c6, c7⟩, ⟨d0, d1, d2, d3, d4, d5, d6, d7⟩, cb⟩ := hSw
      go_simp
    try simp only [Act.put, List.setIfInBounds_toArray, List.set_cons_zero, List.set_cons_succ]
    refine wpAnyH_take (i := 5) (oi := ⟨some _, _, _, _, _, _⟩) (v := (.bool true)) rfl (by kernel_rfl) (by kernel_rfl) (by kernel_rfl) (fun _ _ _ h => h) (Or.inl ⟨by rfl, ?_⟩) ht ?_
    · intro W9 hSw
      obtain ⟨⟨c0, c1, c2, c3, c4, c5, c6, c7⟩, ⟨d0, d1, d2, d3, d4, d5, d6, d7⟩, cb⟩ := hSw
      go_simp
    try simp only [Act.put, List.setIfInBounds_toArray, List.set_cons_zero, List.set_cons_succ]
    refine wpAnyH_take (i := 6) (oi := ⟨some _, _, _, _, _, _⟩) (v := (.agg #[.int .i64 k1, .bool b1, .bool n1, .string ⟨g1.toArray⟩, .int .i64 x1, .string ⟨s1.toArray⟩, .slice A1 l1 p1, .slice B1 m1 z1])) rfl (by kernel_rfl) (by kernel_rfl) (by kernel_rfl) (fun _ _ _ h => h) (Or.inl ⟨by rfl, ?_⟩) ht ?_
    · intro W9 hSw
      obtain ⟨⟨c0, c1, c2, c3, c4, c5, c6, c7⟩, ⟨d0, d1, d2, d3, d4, d5, d6, d7⟩, cb⟩ := hSw
      go_simp
    try simp only [Act.put, List.setIfInBounds_toArray, List.set_cons_zero, List.set_cons_succ]
    refine wpAnyH_take (i := 7) (oi := ⟨some _, _, _, _, _, _⟩) (v := (.agg #[.int .i64 k2, .bool b2, .bool n2, .string ⟨g2.toArray⟩, .int .i64 x2, .string ⟨s2.toArray⟩, .slice A2 l2 p2, .slice B2 m2 z2])) rfl (by kernel_rfl) (by kernel_rfl) (by kernel_rfl) (fun _ _ _ h => h) (Or.inl ⟨by rfl, ?_⟩) ht ?_
    · intro W9 hSw
      obtain ⟨⟨c0, c1, c2, c3, c4, c5, c6, c7⟩, ⟨d0, d1, d2, d3, d4, d5, d6, d7⟩, cb⟩ := hSw
      go_simp
    try simp only [Act.put, List.setIfInBounds_toArray, List.set_cons_zero, List.set_cons_succ]
    refine wpAnyH_take (i := 9) (oi := ⟨some _, _, _, _, _, _⟩) (v := (.bool true)) rfl (by kernel_rfl) (by kernel_rfl) (by kernel_rfl) (fun _ _ _ h => h) (Or.inl ⟨by rfl, ?_⟩) ht ?_
    · intro W9 hSw
      obtain ⟨⟨c0, c1, c2, c3, c4, c5, c6, c7⟩, ⟨d0, d1, d2, d3, d4, d5, d6, d7⟩, cb⟩ := hSw
      go_simp
    try simp only [Act.put, List.setIfInBounds_toArray, List.set_cons_zero, List.set_cons_succ]
    refine wpAnyH_ready (rs := [8]) (by kernel_rfl) (by simp) ?_
    refine AllReadyH.cons (o := ⟨some _, _, _, _, _, _⟩) rfl (fun K hK => ?_) AllReadyH.nil
    go_simp
    refine (HSAME.out _ ht.2.2).mono ?_
    rintro e6 w6 ⟨rfl, hb6⟩
    have hs : VTwo W w1.heap.size w3.heap.size (.int .i64 k1) (.bool b1) (.bool n1) (.string ⟨g1.toArray⟩) (.int .i64 x1) (.string ⟨s1.toArray⟩) (.slice A1 l1 p1) (.slice B1 m1 z1) (.int .i64 k2) (.bool b2) (.bool n2) (.string ⟨g2.toArray⟩) (.int .i64 x2) (.string ⟨s2.toArray⟩) (.slice A2 l2 p2) (.slice B2 m2 z2) w6 := VTwo.on ht hb6
    clear hb6 ht
    go_wp2_with fail
    refine hK.out _ _ hs (fun ht => ?_)
    clear hK K hs
    try simp only [Act.put, List.setIfInBounds_toArray, List.set_cons_zero, List.set_cons_succ]
    refine wpAnyH_take (i := 10) (oi := ⟨some _, _, _, _, _, _⟩) (v := (.bool true)) rfl (by kernel_rfl) (by kernel_rfl) (by kernel_rfl) (fun _ _ _ h => h) (Or.inl ⟨by rfl, ?_⟩) ht ?_
    · intro W9 hSw
      obtain ⟨⟨c0, c1, c2, c3, c4, c5, c6, c7⟩, ⟨d0, d1, d2, d3, d4, d5, d6, d7⟩, cb⟩ := hSw
      go_simp
    try simp only [Act.put, List.setIfInBounds_toArray, List.set_cons_zero, List.set_cons_succ]
    refine wpAnyH_take (i := 11) (oi := ⟨some _, _, _, _, _, _⟩) (v := (.bool true)) rfl (by kernel_rfl) (by kernel_rfl) (by kernel_rfl) (fun _ _ _ h => h) (Or.inl ⟨by rfl, ?_⟩) ht ?_
    · intro W9 hSw
      obtain ⟨⟨c0, c1, c2, c3, c4, c5, c6, c7⟩, ⟨d0, d1, d2, d3, d4, d5, d6, d7⟩, cb⟩ := hSw
      go_simp
    try simp only [Act.put, List.setIfInBounds_toArray, List.set_cons_zero, List.set_cons_succ]
    refine wpAnyH_take (i := 12) (oi := ⟨some _, _, _, _, _, _⟩) (v := (.bool true)) rfl (by kernel_rfl) (by kernel_rfl) (by kernel_rfl) (fun _ _ _ h => h) (Or.inl ⟨by rfl, ?_⟩) ht ?_
    · intro W9 hSw
      obtain ⟨⟨c0, c1, c2, c3, c4, c5, c6, c7⟩, ⟨d0, d1, d2, d3, d4, d5, d6, d7⟩, cb⟩ := hSw
      go_simp
    try simp only [Act.put, List.setIfInBounds_toArray, List.set_cons_zero, List.set_cons_succ]
    refine wpAnyH_take (i := 13) (oi := ⟨some _, _, _, _, _, _⟩) (v := (.agg #[.int .i64 k1, .bool b1, .bool n1, .string ⟨g1.toArray⟩, .int .i64 x1, .string ⟨s1.toArray⟩, .slice A1 l1 p1, .slice B1 m1 z1])) rfl (by kernel_rfl) (by kernel_rfl) (by kernel_rfl) (fun _ _ _ h => h) (Or.inl ⟨by rfl, ?_⟩) ht ?_
    · intro W9 hSw
      obtain ⟨⟨c0, c1, c2, c3, c4, c5, c6, c7⟩, ⟨d0, d1, d2, d3, d4, d5, d6, d7⟩, cb⟩ := hSw
      go_simp
    try simp only [Act.put, List.setIfInBounds_toArray, List.set_cons_zero, List.set_cons_succ]
    refine wpAnyH_take (i := 15) (oi := ⟨some _, _, _, _, _, _⟩) (v := (.agg #[.int .i64 k1, .bool b1, .bool n1, .string ⟨g1.toArray⟩, .int .i64 x1, .string ⟨s1.toArray⟩, .slice A1 l1 p1, .slice B1 m1 z1])) rfl (by kernel_rfl) (by kernel_rfl) (by kernel_rfl) (fun _ _ _ h => h) (Or.inl ⟨by rfl, ?_⟩) ht ?_
    · intro W9 hSw
      obtain ⟨⟨c0, c1, c2, c3, c4, c5, c6, c7⟩, ⟨d0, d1, d2, d3, d4, d5, d6, d7⟩, cb⟩ := hSw
      go_simp
    try simp only [Act.put, List.setIfInBounds_toArray, List.set_cons_zero, List.set_cons_succ]
    refine wpAnyH_ready (rs := [14]) (by kernel_rfl) (by simp) ?_
    refine AllReadyH.cons (o := ⟨some _, _, _, _, _, _⟩) rfl (fun K hK => ?_) AllReadyH.nil
    go_simp
    refine (HSIZE.out _ ht.2.2).mono ?_
    rintro e6 w6 ⟨rfl, hb6⟩
    have hs : VTwo W w1.heap.size w3.heap.size (.int .i64 k1) (.bool b1) (.bool n1) (.string ⟨g1.toArray⟩) (.int .i64 x1) (.string ⟨s1.toArray⟩) (.slice A1 l1 p1) (.slice B1 m1 z1) (.int .i64 k2) (.bool b2) (.bool n2) (.string ⟨g2.toArray⟩) (.int .i64 x2) (.string ⟨s2.toArray⟩) (.slice A2 l2 p2) (.slice B2 m2 z2) w6 := VTwo.on ht hb6
    clear hb6 ht
    go_wp2_with fail
    refine hK.out _ _ hs (fun ht => ?_)
    clear hK K hs
    try simp only [Act.put, List.setIfInBounds_toArray, List.set_cons_zero, List.set_cons_succ]
    refine wpAnyH_ready (rs := [16]) (by kernel_rfl) (by simp) ?_
    refine AllReadyH.cons (o := ⟨some _, _, _, _, _, _⟩) rfl (fun K hK => ?_) AllReadyH.nil
    go_simp
    refine (HRSIZE.out _ ht.2.2).mono ?_
    rintro e6 w6 ⟨rfl, hb6⟩
    have hs : VTwo W w1.heap.size w3.heap.size (.int .i64 k1) (.bool b1) (.bool n1) (.string ⟨g1.toArray⟩) (.int .i64 x1) (.string ⟨s1.toArray⟩) (.slice A1 l1 p1) (.slice B1 m1 z1) (.int .i64 k2) (.bool b2) (.bool n2) (.string ⟨g2.toArray⟩) (.int .i64 x2) (.string ⟨s2.toArray⟩) (.slice A2 l2 p2) (.slice B2 m2 z2) w6 := VTwo.on ht hb6
    clear hb6 ht
    go_wp2_with fail
    refine hK.out _ _ hs (fun ht => ?_)
    clear hK K hs
    try simp only [Act.put, List.setIfInBounds_toArray, List.set_cons_zero, List.set_cons_succ]
    refine wpAnyH_take (i := 17) (oi := ⟨some _, _, _, _, _, _⟩) (v := (.bool true)) rfl (by kernel_rfl) (by kernel_rfl) (by kernel_rfl) (fun _ _ _ h => h) (Or.inl ⟨by rfl, ?_⟩) ht ?_
    · intro W9 hSw
      obtain ⟨⟨c0, c1, c2, c3, c4, c5, c6, c7⟩, ⟨d0, d1, d2, d3, d4, d5, d6, d7⟩, cb⟩ := hSw
      go_simp
    try simp only [Act.put, List.setIfInBounds_toArray, List.set_cons_zero, List.set_cons_succ]
    refine wpAnyH_take (i := 18) (oi := ⟨some _, _, _, _, _, _⟩) (v := (.bool true)) rfl (by kernel_rfl) (by kernel_rfl) (by kernel_rfl) (fun _ _ _ h => h) (Or.inl ⟨by rfl, ?_⟩) ht ?_
    · intro W9 hSw
      obtain ⟨⟨c0, c1, c2, c3, c4, c5, c6, c7⟩, ⟨d0, d1, d2, d3, d4, d5, d6, d7⟩, cb⟩ := hSw
      go_simp
    try simp only [Act.put, List.setIfInBounds_toArray, List.set_cons_zero, List.set_cons_succ]
    refine wpAnyH_take (i := 19) (oi := ⟨some _, _, _, _, _, _⟩) (v := (.bool true)) rfl (by kernel_rfl) (by kernel_rfl) (by kernel_rfl) (fun _ _ _ h => h) (Or.inl ⟨by rfl, ?_⟩) ht ?_
    · intro W9 hSw
      obtain ⟨⟨c0, c1, c2, c3, c4, c5, c6, c7⟩, ⟨d0, d1, d2, d3, d4, d5, d6, d7⟩, cb⟩ := hSw
      go_simp
    try simp only [Act.put, List.setIfInBounds_toArray, List.set_cons_zero, List.set_cons_succ]
    refine wpAnyH_take (i := 20) (oi := ⟨some _, _, _, _, _, _⟩) (v := (.agg #[.int .i64 k1, .bool b1, .bool n1, .string ⟨g1.toArray⟩, .int .i64 x1, .string ⟨s1.toArray⟩, .slice A1 l1 p1, .slice B1 m1 z1])) rfl (by kernel_rfl) (by kernel_rfl) (by kernel_rfl) (fun _ _ _ h => h) (Or.inl ⟨by rfl, ?_⟩) ht ?_
    · intro W9 hSw
      obtain ⟨⟨c0, c1, c2, c3, c4, c5, c6, c7⟩, ⟨d0, d1, d2, d3, d4, d5, d6, d7⟩, cb⟩ := hSw
      go_simp
    try simp only [Act.put, List.setIfInBounds_toArray, List.set_cons_zero, List.set_cons_succ]
    refine wpAnyH_take (i := 22) (oi := ⟨some _, _, _, _, _, _⟩) (v := (.agg #[.int .i64 k1, .bool b1, .bool n1, .string ⟨g1.toArray⟩, .int .i64 x1, .string ⟨s1.toArray⟩, .slice A1 l1 p1, .slice B1 m1 z1])) rfl (by kernel_rfl) (by kernel_rfl) (by kernel_rfl) (fun _ _ _ h => h) (Or.inl ⟨by rfl, ?_⟩) ht ?_
    · intro W9 hSw
      obtain ⟨⟨c0, c1, c2, c3, c4, c5, c6, c7⟩, ⟨d0, d1, d2, d3, d4, d5, d6, d7⟩, cb⟩ := hSw
      go_simp
    try simp only [Act.put, List.setIfInBounds_toArray, List.set_cons_zero, List.set_cons_succ]
    refine wpAnyH_ready (rs := [21]) (by kernel_rfl) (by simp) ?_
    refine AllReadyH.cons (o := ⟨some _, _, _, _, _, _⟩) rfl (fun K hK => ?_) AllReadyH.nil
    go_simp
    refine (HDEPTH.out _ ht.2.2).mono ?_
    rintro e6 w6 ⟨rfl, hb6⟩
    have hs : VTwo W w1.heap.size w3.heap.size (.int .i64 k1) (.bool b1) (.bool n1) (.string ⟨g1.toArray⟩) (.int .i64 x1) (.string ⟨s1.toArray⟩) (.slice A1 l1 p1) (.slice B1 m1 z1) (.int .i64 k2) (.bool b2) (.bool n2) (.string ⟨g2.toArray⟩) (.int .i64 x2) (.string ⟨s2.toArray⟩) (.slice A2 l2 p2) (.slice B2 m2 z2) w6 := VTwo.on ht hb6
    clear hb6 ht
    go_wp2_with fail
    refine hK.out _ _ hs (fun ht => ?_)
    clear hK K hs
    try simp only [Act.put, List.setIfInBounds_toArray, List.set_cons_zero, List.set_cons_succ]
    refine wpAnyH_ready (rs := [23]) (by kernel_rfl) (by simp) ?_
    refine AllReadyH.cons (o := ⟨some _, _, _, _, _, _⟩) rfl (fun K hK => ?_) AllReadyH.nil
    go_simp
    refine (HRDEPTH.out _ ht.2.2).mono ?_
    rintro e6 w6 ⟨rfl, hb6⟩
    have hs : VTwo W w1.heap.size w3.heap.size (.int .i64 k1) (.bool b1) (.bool n1) (.string ⟨g1.toArray⟩) (.int .i64 x1) (.string ⟨s1.toArray⟩) (.slice A1 l1 p1) (.slice B1 m1 z1) (.int .i64 k2) (.bool b2) (.bool n2) (.string ⟨g2.toArray⟩) (.int .i64 x2) (.string ⟨s2.toArray⟩) (.slice A2 l2 p2) (.slice B2 m2 z2) w6 := VTwo.on ht hb6
    clear hb6 ht
    go_wp2_with fail
    refine hK.out _ _ hs (fun ht => ?_)
    clear hK K hs
    try simp only [Act.put, List.setIfInBounds_toArray, List.set_cons_zero, List.set_cons_succ]
    refine wpAnyH_take (i := 24) (oi := ⟨some _, _, _, _, _, _⟩) (v := (.bool true)) rfl (by kernel_rfl) (by kernel_rfl) (by kernel_rfl) (fun _ _ _ h => h) (Or.inl ⟨by rfl, ?_⟩) ht ?_
    · intro W9 hSw
      obtain ⟨⟨c0, c1, c2, c3, c4, c5, c6, c7⟩, ⟨d0, d1, d2, d3, d4, d5, d6, d7⟩, cb⟩ := hSw
      go_simp
    try simp only [Act.put, List.setIfInBounds_toArray, List.set_cons_zero, List.set_cons_succ]
    refine wpAnyH_take (i := 25) (oi := ⟨some _, _, _, _, _, _⟩) (v := (.bool true)) rfl (by kernel_rfl) (by kernel_rfl) (by kernel_rfl) (fun _ _ _ h => h) (Or.inl ⟨by rfl, ?_⟩) ht ?_
    · intro W9 hSw
      obtain ⟨⟨c0, c1, c2, c3, c4, c5, c6, c7⟩, ⟨d0, d1, d2, d3, d4, d5, d6, d7⟩, cb⟩ := hSw
      go_simp
    try simp only [Act.put, List.setIfInBounds_toArray, List.set_cons_zero, List.set_cons_succ]
    refine wpAnyH_take (i := 26) (oi := ⟨some _, _, _, _, _, _⟩) (v := (.bool true)) rfl (by kernel_rfl) (by kernel_rfl) (by kernel_rfl) (fun _ _ _ h => h) (Or.inl ⟨by rfl, ?_⟩) ht ?_
    · intro W9 hSw
      obtain ⟨⟨c0, c1, c2, c3, c4, c5, c6, c7⟩, ⟨d0, d1, d2, d3, d4, d5, d6, d7⟩, cb⟩ := hSw
      go_simp
    try simp only [Act.put, List.setIfInBounds_toArray, List.set_cons_zero, List.set_cons_succ]
    refine wpAnyH_take (i := 27) (oi := ⟨some _, _, _, _, _, _⟩) (v := (.bool true)) rfl (by kernel_rfl) (by kernel_rfl) (by kernel_rfl) (fun _ _ _ h => h) (Or.inl ⟨by rfl, ?_⟩) ht ?_
    · intro W9 hSw
      obtain ⟨⟨c0, c1, c2, c3, c4, c5, c6, c7⟩, ⟨d0, d1, d2, d3, d4, d5, d6, d7⟩, cb⟩ := hSw
      go_simp
    try simp only [Act.put, List.setIfInBounds_toArray, List.set_cons_zero, List.set_cons_succ]
    refine wpAnyH_take (i := 28) (oi := ⟨some _, _, _, _, _, _⟩) (v := (.bool true)) rfl (by kernel_rfl) (by kernel_rfl) (by kernel_rfl) (fun _ _ _ h => h) (Or.inl ⟨by rfl, ?_⟩) ht ?_
    · intro W9 hSw
      obtain ⟨⟨c0, c1, c2, c3, c4, c5, c6, c7⟩, ⟨d0, d1, d2, d3, d4, d5, d6, d7⟩, cb⟩ := hSw
      go_simp
    try simp only [Act.put, List.setIfInBounds_toArray, List.set_cons_zero, List.set_cons_succ]
    refine wpAnyH_take (i := 29) (oi := ⟨some _, _, _, _, _, _⟩) (v := (.bool true)) rfl (by kernel_rfl) (by kernel_rfl) (by kernel_rfl) (fun _ _ _ h => h) (Or.inl ⟨by rfl, ?_⟩) ht ?_
    · intro W9 hSw
      obtain ⟨⟨c0, c1, c2, c3, c4, c5, c6, c7⟩, ⟨d0, d1, d2, d3, d4, d5, d6, d7⟩, cb⟩ := hSw
      go_simp
    try simp only [Act.put, List.setIfInBounds_toArray, List.set_cons_zero, List.set_cons_succ]
    refine wpAnyH_take (i := 30) (oi := ⟨some _, _, _, _, _, _⟩) (v := (.bool r.isSome)) rfl (by kernel_rfl) (by kernel_rfl) (by kernel_rfl) (fun _ _ _ h => h) (Or.inl ⟨by rfl, ?_⟩) ht ?_
    · intro W9 hSw
      obtain ⟨⟨c0, c1, c2, c3, c4, c5, c6, c7⟩, ⟨d0, d1, d2, d3, d4, d5, d6, d7⟩, cb⟩ := hSw
      go_simp
    try simp only [Act.put, List.setIfInBounds_toArray, List.set_cons_zero, List.set_cons_succ]
    refine wpAnyH_take (i := 31) (oi := ⟨some _, _, _, _, _, _⟩) (v := (.bool r.isSome)) rfl (by kernel_rfl) (by kernel_rfl) (by kernel_rfl) (fun _ _ _ h => h) (Or.inl ⟨by rfl, ?_⟩) ht ?_
    · intro W9 hSw
      obtain ⟨⟨c0, c1, c2, c3, c4, c5, c6, c7⟩, ⟨d0, d1, d2, d3, d4, d5, d6, d7⟩, cb⟩ := hSw
      go_simp
    try simp only [Act.put, List.setIfInBounds_toArray, List.set_cons_zero, List.set_cons_succ]
    refine wpAnyH_take (i := 32) (oi := ⟨some _, _, _, _, _, _⟩) (v := (.bool true)) rfl (by kernel_rfl) (by kernel_rfl) (by kernel_rfl) (fun _ _ _ h => h) (Or.inl ⟨by rfl, ?_⟩) ht ?_
    · intro W9 hSw
      obtain ⟨⟨c0, c1, c2, c3, c4, c5, c6, c7⟩, ⟨d0, d1, d2, d3, d4, d5, d6, d7⟩, cb⟩ := hSw
      go_simp
    try simp only [Act.put, List.setIfInBounds_toArray, List.set_cons_zero, List.set_cons_succ]
    refine wpAnyH_take (i := 33) (oi := ⟨some _, _, _, _, _, _⟩) (v := (.bool true)) rfl (by kernel_rfl) (by kernel_rfl) (by kernel_rfl) (fun _ _ _ h => h) (Or.inl ⟨by rfl, ?_⟩) ht ?_
    · intro W9 hSw
      obtain ⟨⟨c0, c1, c2, c3, c4, c5, c6, c7⟩, ⟨d0, d1, d2, d3, d4, d5, d6, d7⟩, cb⟩ := hSw
      go_simp
    try simp only [Act.put, List.setIfInBounds_toArray, List.set_cons_zero, List.set_cons_succ]
    refine wpAnyH_take (i := 34) (oi := ⟨some _, _, _, _, _, _⟩) (v := (.bool true)) rfl (by kernel_rfl) (by kernel_rfl) (by kernel_rfl) (fun _ _ _ h => h) (Or.inl ⟨by rfl, ?_⟩) ht ?_
    · intro W9 hSw
      obtain ⟨⟨c0, c1, c2, c3, c4, c5, c6, c7⟩, ⟨d0, d1, d2, d3, d4, d5, d6, d7⟩, cb⟩ := hSw
      go_simp
    try simp only [Act.put, List.setIfInBounds_toArray, List.set_cons_zero, List.set_cons_succ]
    refine wpAnyH_done (by kernel_rfl) ?_ _
    have hbl := HB10.out.trans (ht.2.2.mono HB10.out.size)
    clear ht
    go_wp2
    go_ret
    exact ⟨rfl, hbl⟩
  | false =>
    refine wp_region_held_drew (S := VTwo W w1.heap.size w3.heap.size (.int .i64 k1) (.bool b1) (.bool n1) (.string ⟨g1.toArray⟩) (.int .i64 x1) (.string ⟨s1.toArray⟩) (.slice A1 l1 p1) (.slice B1 m1 z1) (.int .i64 k2) (.bool b2) (.bool n2) (.string ⟨g2.toArray⟩) (.int .i64 x2) (.string ⟨s2.toArray⟩) (.slice A2 l2 p2) (.slice B2 m2 z2)) (by kernel_rfl) HFIN.out (fun ht => ?_)
    refine wpAnyH_take (i := 0) (oi := ⟨some _, _, _, _, _, _⟩) (v := (.bool true)) rfl (by kernel_rfl) (by kernel_rfl) (by kernel_rfl) (fun _ _ _ h => h) (Or.inl ⟨by rfl, ?_⟩) ht ?_
    · intro W9 hSw
      obtain ⟨⟨c0, c1, c2, c3, c4, c5, c6, c7⟩, ⟨d0, d1, d2, d3, d4, d5, d6, d7⟩, cb⟩ := hSw
      go_simp
    try simp only [Act.put, List.setIfInBounds_toArray, List.set_cons_zero, List.set_cons_succ]
    refine wpAnyH_take (i := 1) (oi := ⟨some _, _, _, _, _, _⟩) (v := (.bool true)) rfl (by kernel_rfl) (by kernel_rfl) (by kernel_rfl) (fun _ _ _ h => h) (Or.inl ⟨by rfl, ?_⟩) ht ?_
    · intro W9 hSw
      obtain ⟨⟨c0, c1, c2, c3, c4, c5, c6, c7⟩, ⟨d0, d1, d2, d3, d4, d5, d6, d7⟩, cb⟩ := hSw
      go_simp
    try simp only [Act.put, List.setIfInBounds_toArray, List.set_cons_zero, List.set_cons_succ]
    refine wpAnyH_take (i := 2) (oi := ⟨some _, _, _, _, _, _⟩) (v := (.agg #[.int .i64 k1, .bool b1, .bool n1, .string ⟨g1.toArray⟩, .int .i64 x1, .string ⟨s1.toArray⟩, .slice A1 l1 p1, .slice B1 m1 z1])) rfl (by kernel_rfl) (by kernel_rfl) (by kernel_rfl) (fun _ _ _ h => h) (Or.inl ⟨by rfl, ?_⟩) ht ?_
    · intro W9 hSw
      obtain ⟨⟨c0, c1, c2, c3, c4, c5, c6, c7⟩, ⟨d0, d1, d2, d3, d4, d5, d6, d7⟩, cb⟩ := hSw
      go_simp
    try simp only [Act.put, List.setIfInBounds_toArray, List.set_cons_zero, List.set_cons_succ]
    refine wpAnyH_ready (rs := [3]) (by kernel_rfl) (by simp) ?_
    refine AllReadyH.cons (o := ⟨some _, _, _, _, _, _⟩) rfl (fun K hK => ?_) AllReadyH.nil
    go_simp
    refine (HMAY.out _ ht.2.2).mono ?_
    rintro e6 w6 ⟨rfl, hb6⟩
    have hs : VTwo W w1.heap.size w3.heap.size (.int .i64 k1) (.bool b1) (.bool n1) (.string ⟨g1.toArray⟩) (.int .i64 x1) (.string ⟨s1.toArray⟩) (.slice A1 l1 p1) (.slice B1 m1 z1) (.int .i64 k2) (.bool b2) (.bool n2) (.string ⟨g2.toArray⟩) (.int .i64 x2) (.string ⟨s2.toArray⟩) (.slice A2 l2 p2) (.slice B2 m2 z2) w6 := VTwo.on ht hb6
    clear hb6 ht
    go_wp2_with fail
    refine hK.out _ _ hs (fun ht => ?_)
    clear hK K hs
    try simp only [Act.put, List.setIfInBounds_toArray, List.set_cons_zero, List.set_cons_succ]
    refine wpAnyH_take (i := 4) (oi := ⟨some _, _, _, _, _, _⟩) (v := (.bool true)) rfl (by kernel_rfl) (by kernel_rfl) (by kernel_rfl) (fun _ _ _ h => h) (Or.inl ⟨by rfl, ?_⟩) ht ?_
    · intro W9 hSw
      obtain ⟨⟨c0, c1, c2, c3, c4, c5, c6, c7⟩, ⟨d0, d1, d2, d3, d4, d5, d6, d7⟩, cb⟩ := hSw
      go_simp
    try simp only [Act.put, List.setIfInBounds_toArray, List.set_cons_zero, List.set_cons_succ]
    refine wpAnyH_take (i := 5) (oi := ⟨some _, _, _, _, _, _⟩) (v := (.bool true)) rfl (by kernel_rfl) (by kernel_rfl) (by kernel_rfl) (fun _ _ _ h => h) (Or.inl ⟨by rfl, ?_⟩) ht ?_
    · intro W9 hSw
      obtain ⟨⟨c0, c1, c2, c3, c4, c5, c6, c7⟩, ⟨d0, d1, d2, d3, d4, d5, d6, d7⟩, cb⟩ := hSw
      go_simp
    try simp only [Act.put, List.setIfInBounds_toArray, List.set_cons_zero, List.set_cons_succ]
    refine wpAnyH_take (i := 6) (oi := ⟨some _, _, _, _, _, _⟩) (v := (.agg #[.int .i64 k1, .bool b1, .bool n1, .string ⟨g1.toArray⟩, .int .i64 x1, .string ⟨s1.toArray⟩, .slice A1 l1 p1, .slice B1 m1 z1])) rfl (by kernel_rfl) (by kernel_rfl) (by kernel_rfl) (fun _ _ _ h => h) (Or.inl ⟨by rfl, ?_⟩) ht ?_
    · intro W9 hSw
      obtain ⟨⟨c0, c1, c2, c3, c4, c5, c6, c7⟩, ⟨d0, d1, d2, d3, d4, d5, d6, d7⟩, cb⟩ := hSw
      go_simp
    try simp only [Act.put, List.setIfInBounds_toArray, List.set_cons_zero, List.set_cons_succ]
    refine wpAnyH_take (i := 7) (oi := ⟨some _, _, _, _, _, _⟩) (v := (.agg #[.int .i64 k2, .bool b2, .bool n2, .string ⟨g2.toArray⟩, .int .i64 x2, .string ⟨s2.toArray⟩, .slice A2 l2 p2, .slice B2 m2 z2])) rfl (by kernel_rfl) (by kernel_rfl) (by kernel_rfl) (fun _ _ _ h => h) (Or.inl ⟨by rfl, ?_⟩) ht ?_
    · intro W9 hSw
      obtain ⟨⟨c0, c1, c2, c3, c4, c5, c6, c7⟩, ⟨d0, d1, d2, d3, d4, d5, d6, d7⟩, cb⟩ := hSw
      go_simp
    try simp only [Act.put, List.setIfInBounds_toArray, List.set_cons_zero, List.set_cons_succ]
    refine wpAnyH_take (i := 9) (oi := ⟨some _, _, _, _, _, _⟩) (v := (.bool false)) rfl (by kernel_rfl) (by kernel_rfl) (by kernel_rfl) (fun _ _ _ h => h) (Or.inl ⟨by rfl, ?_⟩) ht ?_
    · intro W9 hSw
      obtain ⟨⟨c0, c1, c2, c3, c4, c5, c6, c7⟩, ⟨d0, d1, d2, d3, d4, d5, d6, d7⟩, cb⟩ := hSw
      go_simp
    try simp only [Act.put, List.setIfInBounds_toArray, List.set_cons_zero, List.set_cons_succ]
    refine wpAnyH_ready (rs := [8]) (by kernel_rfl) (by simp) ?_
    refine AllReadyH.cons (o := ⟨some _, _, _, _, _, _⟩) rfl (fun K hK => ?_) AllReadyH.nil
    go_simp
    refine (HSAME.out _ ht.2.2).mono ?_
    rintro e6 w6 ⟨rfl, hb6⟩
    have hs : VTwo W w1.heap.size w3.heap.size (.int .i64 k1) (.bool b1) (.bool n1) (.string ⟨g1.toArray⟩) (.int .i64 x1) (.string ⟨s1.toArray⟩) (.slice A1 l1 p1) (.slice B1 m1 z1) (.int .i64 k2) (.bool b2) (.bool n2) (.string ⟨g2.toArray⟩) (.int .i64 x2) (.string ⟨s2.toArray⟩) (.slice A2 l2 p2) (.slice B2 m2 z2) w6 := VTwo.on ht hb6
    clear hb6 ht
    go_wp2_with fail
    refine hK.out _ _ hs (fun ht => ?_)
    clear hK K hs
    try simp only [Act.put, List.setIfInBounds_toArray, List.set_cons_zero, List.set_cons_succ]
    refine wpAnyH_take (i := 10) (oi := ⟨some _, _, _, _, _, _⟩) (v := (.bool true)) rfl (by kernel_rfl) (by kernel_rfl) (by kernel_rfl) (fun _ _ _ h => h) (Or.inl ⟨by rfl, ?_⟩) ht ?_
    · intro W9 hSw
      obtain ⟨⟨c0, c1, c2, c3, c4, c5, c6, c7⟩, ⟨d0, d1, d2, d3, d4, d5, d6, d7⟩, cb⟩ := hSw
      go_simp
    try simp only [Act.put, List.setIfInBounds_toArray, List.set_cons_zero, List.set_cons_succ]
    refine wpAnyH_take (i := 11) (oi := ⟨some _, _, _, _, _, _⟩) (v := (.bool true)) rfl (by kernel_rfl) (by kernel_rfl) (by kernel_rfl) (fun _ _ _ h => h) (Or.inl ⟨by rfl, ?_⟩) ht ?_
    · intro W9 hSw
      obtain ⟨⟨c0, c1, c2, c3, c4, c5, c6, c7⟩, ⟨d0, d1, d2, d3, d4, d5, d6, d7⟩, cb⟩ := hSw
      go_simp
    try simp only [Act.put, List.setIfInBounds_toArray, List.set_cons_zero, List.set_cons_succ]
    refine wpAnyH_take (i := 12) (oi := ⟨some _, _, _, _, _, _⟩) (v := (.bool true)) rfl (by kernel_rfl) (by kernel_rfl) (by kernel_rfl) (fun _ _ _ h => h) (Or.inl ⟨by rfl, ?_⟩) ht ?_
    · intro W9 hSw
      obtain ⟨⟨c0, c1, c2, c3, c4, c5, c6, c7⟩, ⟨d0, d1, d2, d3, d4, d5, d6, d7⟩, cb⟩ := hSw
      go_simp
    try simp only [Act.put, List.setIfInBounds_toArray, List.set_cons_zero, List.set_cons_succ]
    refine wpAnyH_take (i := 13) (oi := ⟨some _, _, _, _, _, _⟩) (v := (.agg #[.int .i64 k1, .bool b1, .bool n1, .string ⟨g1.toArray⟩, .int .i64 x1, .string ⟨s1.toArray⟩, .slice A1 l1 p1, .slice B1 m1 z1])) rfl (by kernel_rfl) (by kernel_rfl) (by kernel_rfl) (fun _ _ _ h => h) (Or.inl ⟨by rfl, ?_⟩) ht ?_
    · intro W9 hSw
      obtain ⟨⟨c0, c1, c2, c3, c4, c5, c6, c7⟩, ⟨d0, d1, d2, d3, d4, d5, d6, d7⟩, cb⟩ := hSw
      go_simp
    try simp only [Act.put, List.setIfInBounds_toArray, List.set_cons_zero, List.set_cons_succ]
    refine wpAnyH_take (i := 15) (oi := ⟨some _, _, _, _, _, _⟩) (v := (.agg #[.int .i64 k1, .bool b1, .bool n1, .string ⟨g1.toArray⟩, .int .i64 x1, .string ⟨s1.toArray⟩, .slice A1 l1 p1, .slice B1 m1 z1])) rfl (by kernel_rfl) (by kernel_rfl) (by kernel_rfl) (fun _ _ _ h => h) (Or.inl ⟨by rfl, ?_⟩) ht ?_
    · intro W9 hSw
      obtain ⟨⟨c0, c1, c2, c3, c4, c5, c6, c7⟩, ⟨d0, d1, d2, d3, d4, d5, d6, d7⟩, cb⟩ := hSw
      go_simp
    try simp only [Act.put, List.setIfInBounds_toArray, List.set_cons_zero, List.set_cons_succ]
    refine wpAnyH_ready (rs := [14]) (by kernel_rfl) (by simp) ?_
    refine AllReadyH.cons (o := ⟨some _, _, _, _, _, _⟩) rfl (fun K hK => ?_) AllReadyH.nil
    go_simp
    refine (HSIZE.out _ ht.2.2).mono ?_
    rintro e6 w6 ⟨rfl, hb6⟩
    have hs : VTwo W w1.heap.size w3.heap.size (.int .i64 k1) (.bool b1) (.bool n1) (.string ⟨g1.toArray⟩) (.int .i64 x1) (.string ⟨s1.toArray⟩) (.slice A1 l1 p1) (.slice B1 m1 z1) (.int .i64 k2) (.bool b2) (.bool n2) (.string ⟨g2.toArray⟩) (.int .i64 x2) (.string ⟨s2.toArray⟩) (.slice A2 l2 p2) (.slice B2 m2 z2) w6 := VTwo.on ht hb6
    clear hb6 ht
    go_wp2_with fail
    refine hK.out _ _ hs (fun ht => ?_)
    clear hK K hs
    try simp only [Act.put, List.setIfInBounds_toArray, List.set_cons_zero, List.set_cons_succ]
    refine wpAnyH_ready (rs := [16]) (by kernel_rfl) (by simp) ?_
    refine AllReadyH.cons (o := ⟨some _, _, _, _, _, _⟩) rfl (fun K hK => ?_) AllReadyH.nil
    go_simp
    refine (HRSIZE.out _ ht.2.2).mono ?_
    rintro e6 w6 ⟨rfl, hb6⟩
    have hs : VTwo W w1.heap.size w3.heap.size (.int .i64 k1) (.bool b1) (.bool n1) (.string ⟨g1.toArray⟩) (.int .i64 x1) (.string ⟨s1.toArray⟩) (.slice A1 l1 p1) (.slice B1 m1 z1) (.int .i64 k2) (.bool b2) (.bool n2) (.string ⟨g2.toArray⟩) (.int .i64 x2) (.string ⟨s2.toArray⟩) (.slice A2 l2 p2) (.slice B2 m2 z2) w6 := VTwo.on ht hb6
    clear hb6 ht
    go_wp2_with fail
    refine hK.out _ _ hs (fun ht => ?_)
    clear hK K hs
    try simp only [Act.put, List.setIfInBounds_toArray, List.set_cons_zero, List.set_cons_succ]
    refine wpAnyH_take (i := 17) (oi := ⟨some _, _, _, _, _, _⟩) (v := (.bool true)) rfl (by kernel_rfl) (by kernel_rfl) (by kernel_rfl) (fun _ _ _ h => h) (Or.inl ⟨by rfl, ?_⟩) ht ?_
    · intro W9 hSw
      obtain ⟨⟨c0, c1, c2, c3, c4, c5, c6, c7⟩, ⟨d0, d1, d2, d3, d4, d5, d6, d7⟩, cb⟩ := hSw
      go_simp
    try simp only [Act.put, List.setIfInBounds_toArray, List.set_cons_zero, List.set_cons_succ]
    refine wpAnyH_take (i := 18) (oi := ⟨some _, _, _, _, _, _⟩) (v := (.bool true)) rfl (by kernel_rfl) (by kernel_rfl) (by kernel_rfl) (fun _ _ _ h => h) (Or.inl ⟨by rfl, ?_⟩) ht ?_
    · intro W9 hSw
      obtain ⟨⟨c0, c1, c2, c3, c4, c5, c6, c7⟩, ⟨d0, d1, d2, d3, d4, d5, d6, d7⟩, cb⟩ := hSw
      go_simp
    try simp only [Act.put, List.setIfInBounds_toArray, List.set_cons_zero, List.set_cons_succ]
    refine wpAnyH_take (i := 19) (oi := ⟨some _, _, _, _, _, _⟩) (v := (.bool true)) rfl (by kernel_rfl) (by kernel_rfl) (by kernel_rfl) (fun _ _ _ h => h) (Or.inl ⟨by rfl, ?_⟩) ht ?_
    · intro W9 hSw
      obtain ⟨⟨c0, c1, c2, c3, c4, c5, c6, c7⟩, ⟨d0, d1, d2, d3, d4, d5, d6, d7⟩, cb⟩ := hSw
      go_simp
    try simp only [Act.put, List.setIfInBounds_toArray, List.set_cons_zero, List.set_cons_succ]
    refine wpAnyH_take (i := 20) (oi := ⟨some _, _, _, _, _, _⟩) (v := (.agg #[.int .i64 k1, .bool b1, .bool n1, .string ⟨g1.toArray⟩, .int .i64 x1, .string ⟨s1.toArray⟩, .slice A1 l1 p1, .slice B1 m1 z1])) rfl (by kernel_rfl) (by kernel_rfl) (by kernel_rfl) (fun _ _ _ h => h) (Or.inl ⟨by rfl, ?_⟩) ht ?_
    · intro W9 hSw
      obtain ⟨⟨c0, c1, c2, c3, c4, c5, c6, c7⟩, ⟨d0, d1, d2, d3, d4, d5, d6, d7⟩, cb⟩ := hSw
      go_simp
    try simp only [Act.put, List.setIfInBounds_toArray, List.set_cons_zero, List.set_cons_succ]
    refine wpAnyH_take (i := 22) (oi := ⟨some _, _, _, _, _, _⟩) (v := (.agg #[.int .i64 k1, .bool b1, .bool n1, .string ⟨g1.toArray⟩, .int .i64 x1, .string ⟨s1.toArray⟩, .slice A1 l1 p1, .slice B1 m1 z1])) rfl (by kernel_rfl) (by kernel_rfl) (by kernel_rfl) (fun _ _ _ h => h) (Or.inl ⟨by rfl, ?_⟩) ht ?_
    · intro W9 hSw
      obtain ⟨⟨c0, c1, c2, c3, c4, c5, c6, c7⟩, ⟨d0, d1, d2, d3, d4, d5, d6, d7⟩, cb⟩ := hSw
      go_simp
    try simp only [Act.put, List.setIfInBounds_toArray, List.set_cons_zero, List.set_cons_succ]
    refine wpAnyH_ready (rs := [21]) (by kernel_rfl) (by simp) ?_
    refine AllReadyH.cons (o := ⟨some _, _, _, _, _, _⟩) rfl (fun K hK => ?_) AllReadyH.nil
    go_simp
    refine (HDEPTH.out _ ht.2.2).mono ?_
    rintro e6 w6 ⟨rfl, hb6⟩
    have hs : VTwo W w1.heap.size w3.heap.size (.int .i64 k1) (.bool b1) (.bool n1) (.string ⟨g1.toArray⟩) (.int .i64 x1) (.string ⟨s1.toArray⟩) (.slice A1 l1 p1) (.slice B1 m1 z1) (.int .i64 k2) (.bool b2) (.bool n2) (.string ⟨g2.toArray⟩) (.int .i64 x2) (.string ⟨s2.toArray⟩) (.slice A2 l2 p2) (.slice B2 m2 z2) w6 := VTwo.on ht hb6
    clear hb6 ht
    go_wp2_with fail
    refine hK.out _ _ hs (fun ht => ?_)
    clear hK K hs
    try simp only [Act.put, List.setIfInBounds_toArray, List.set_cons_zero, List.set_cons_succ]
    refine wpAnyH_ready (rs := [23]) (by kernel_rfl) (by simp) ?_
    refine AllReadyH.cons (o := ⟨some _, _, _, _, _, _⟩) rfl (fun K hK => ?_) AllReadyH.nil
    go_simp
    refine (HRDEPTH.out _ ht.2.2).mono ?_
    rintro e6 w6 ⟨rfl, hb6⟩
    have hs : VTwo W w1.heap.size w3.heap.size (.int .i64 k1) (.bool b1) (.bool n1) (.string ⟨g1.toArray⟩) (.int .i64 x1) (.string ⟨s1.toArray⟩) (.slice A1 l1 p1) (.slice B1 m1 z1) (.int .i64 k2) (.bool b2) (.bool n2) (.string ⟨g2.toArray⟩) (.int .i64 x2) (.string ⟨s2.toArray⟩) (.slice A2 l2 p2) (.slice B2 m2 z2) w6 := VTwo.on ht hb6
    clear hb6 ht
    go_wp2_with fail
    refine hK.out _ _ hs (fun ht => ?_)
    clear hK K hs
    try simp only [Act.put, List.setIfInBounds_toArray, List.set_cons_zero, List.set_cons_succ]
    refine wpAnyH_take (i := 24) (oi := ⟨some _, _, _, _, _, _⟩) (v := (.bool true)) rfl (by kernel_rfl) (by kernel_rfl) (by kernel_rfl) (fun _ _ _ h => h) (Or.inl ⟨by rfl, ?_⟩) ht ?_
    · intro W9 hSw
      obtain ⟨⟨c0, c1, c2, c3, c4, c5, c6, c7⟩, ⟨d0, d1, d2, d3, d4, d5, d6, d7⟩, cb⟩ := hSw
      go_simp
    try simp only [Act.put, List.setIfInBounds_toArray, List.set_cons_zero, List.set_cons_succ]
    refine wpAnyH_take (i := 25) (oi := ⟨some _, _, _, _, _, _⟩) (v := (.bool true)) rfl (by kernel_rfl) (by kernel_rfl) (by kernel_rfl) (fun _ _ _ h => h) (Or.inl ⟨by rfl, ?_⟩) ht ?_
    · intro W9 hSw
      obtain ⟨⟨c0, c1, c2, c3, c4, c5, c6, c7⟩, ⟨d0, d1, d2, d3, d4, d5, d6, d7⟩, cb⟩ := hSw
      go_simp
    try simp only [Act.put, List.setIfInBounds_toArray, List.set_cons_zero, List.set_cons_succ]
    refine wpAnyH_take (i := 26) (oi := ⟨some _, _, _, _, _, _⟩) (v := (.bool true)) rfl (by kernel_rfl) (by kernel_rfl) (by kernel_rfl) (fun _ _ _ h => h) (Or.inl ⟨by rfl, ?_⟩) ht ?_
    · intro W9 hSw
      obtain ⟨⟨c0, c1, c2, c3, c4, c5, c6, c7⟩, ⟨d0, d1, d2, d3, d4, d5, d6, d7⟩, cb⟩ := hSw
      go_simp
    try simp only [Act.put, List.setIfInBounds_toArray, List.set_cons_zero, List.set_cons_succ]
    refine wpAnyH_take (i := 27) (oi := ⟨some _, _, _, _, _, _⟩) (v := (.bool true)) rfl (by kernel_rfl) (by kernel_rfl) (by kernel_rfl) (fun _ _ _ h => h) (Or.inl ⟨by rfl, ?_⟩) ht ?_
    · intro W9 hSw
      obtain ⟨⟨c0, c1, c2, c3, c4, c5, c6, c7⟩, ⟨d0, d1, d2, d3, d4, d5, d6, d7⟩, cb⟩ := hSw
      go_simp
    try simp only [Act.put, List.setIfInBounds_toArray, List.set_cons_zero, List.set_cons_succ]
    refine wpAnyH_take (i := 28) (oi := ⟨some _, _, _, _, _, _⟩) (v := (.bool true)) rfl (by kernel_rfl) (by kernel_rfl) (by kernel_rfl) (fun _ _ _ h => h) (Or.inl ⟨by rfl, ?_⟩) ht ?_
    · intro W9 hSw
      obtain ⟨⟨c0, c1, c2, c3, c4, c5, c6, c7⟩, ⟨d0, d1, d2, d3, d4, d5, d6, d7⟩, cb⟩ := hSw
      go_simp
    try simp only [Act.put, List.setIfInBounds_toArray, List.set_cons_zero, List.set_cons_succ]
    refine wpAnyH_take (i := 29) (oi := ⟨some _, _, _, _, _, _⟩) (v := (.bool true)) rfl (by kernel_rfl) (by kernel_rfl) (by kernel_rfl) (fun _ _ _ h => h) (Or.inl ⟨by rfl, ?_⟩) ht ?_
    · intro W9 hSw
      obtain ⟨⟨c0, c1, c2, c3, c4, c5, c6, c7⟩, ⟨d0, d1, d2, d3, d4, d5, d6, d7⟩, cb⟩ := hSw
      go_simp
    try simp only [Act.put, List.setIfInBounds_toArray, List.set_cons_zero, List.set_cons_succ]
    refine wpAnyH_take (i := 30) (oi := ⟨some _, _, _, _, _, _⟩) (v := (.bool r.isSome)) rfl (by kernel_rfl) (by kernel_rfl) (by kernel_rfl) (fun _ _ _ h => h) (Or.inl ⟨by rfl, ?_⟩) ht ?_
    · intro W9 hSw
      obtain ⟨⟨c0, c1, c2, c3, c4, c5, c6, c7⟩, ⟨d0, d1, d2, d3, d4, d5, d6, d7⟩, cb⟩ := hSw
      go_simp
    try simp only [Act.put, List.setIfInBounds_toArray, List.set_cons_zero, List.set_cons_succ]
    refine wpAnyH_take (i := 31) (oi := ⟨some _, _, _, _, _, _⟩) (v := (.bool r.isSome)) rfl (by kernel_rfl) (by kernel_rfl) (by kernel_rfl) (fun _ _ _ h => h) (Or.inl ⟨by rfl, ?_⟩) ht ?_
    · intro W9 hSw
      obtain ⟨⟨c0, c1, c2, c3, c4, c5, c6, c7⟩, ⟨d0, d1, d2, d3, d4, d5, d6, d7⟩, cb⟩ := hSw
      go_simp
    try simp only [Act.put, List.setIfInBounds_toArray, List.set_cons_zero, List.set_cons_succ]
    refine wpAnyH_take (i := 32) (oi := ⟨some _, _, _, _, _, _⟩) (v := (.bool true)) rfl (by kernel_rfl) (by kernel_rfl) (by kernel_rfl) (fun _ _ _ h => h) (Or.inl ⟨by rfl, ?_⟩) ht ?_
    · intro W9 hSw
      obtain ⟨⟨c0, c1, c2, c3, c4, c5, c6, c7⟩, ⟨d0, d1, d2, d3, d4, d5, d6, d7⟩, cb⟩ := hSw
      go_simp
    try simp only [Act.put, List.setIfInBounds_toArray, List.set_cons_zero, List.set_cons_succ]
    refine wpAnyH_take (i := 33) (oi := ⟨some _, _, _, _, _, _⟩) (v := (.bool true)) rfl (by kernel_rfl) (by kernel_rfl) (by kernel_rfl) (fun _ _ _ h => h) (Or.inl ⟨by rfl, ?_⟩) ht ?_
    · intro W9 hSw
      obtain ⟨⟨c0, c1, c2, c3, c4, c5, c6, c7⟩, ⟨d0, d1, d2, d3, d4, d5, d6, d7⟩, cb⟩ := hSw
      go_simp
    try simp only [Act.put, List.setIfInBounds_toArray, List.set_cons_zero, List.set_cons_succ]
    refine wpAnyH_take (i := 34) (oi := ⟨some _, _, _, _, _, _⟩) (v := (.bool true)) rfl (by kernel_rfl) (by kernel_rfl) (by kernel_rfl) (fun _ _ _ h => h) (Or.inl ⟨by rfl, ?_⟩) ht ?_
    · intro W9 hSw
      obtain ⟨⟨c0, c1, c2, c3, c4, c5, c6, c7⟩, ⟨d0, d1, d2, d3, d4, d5, d6, d7⟩, cb⟩ := hSw
      go_simp
    try simp only [Act.put, List.setIfInBounds_toArray, List.set_cons_zero, List.set_cons_succ]
    refine wpAnyH_done (by kernel_rfl) ?_ _
    have hbl := HB10.out.trans (ht.2.2.mono HB10.out.size)
    clear ht
    go_wp2
    go_ret
    exact ⟨rfl, hbl⟩

end Go.Proofs.YtfconmjgedaifaaDoor

