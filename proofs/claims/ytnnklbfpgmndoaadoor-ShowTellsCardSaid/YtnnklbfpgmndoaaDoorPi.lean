/- The laws of layer 5 (show): ShowTells. -/
import Derived.Test.YtnnklbfpgmndoaaDoorPe
import Derived.Test.YtnnklbfpgmndoaaDoorPh
namespace Go.Proofs.YtnnklbfpgmndoaaDoor
open Go.RowKit Js

/-- What Value of the laws tells, where its text may be shown. -/
def Told6 (w : World) (e : Ending) (w' : World) : Prop :=
  ∃ (v : Vl) (x : Value) (c : Int), e = .returned (.tuple #[x, .int .i64 c]) ∧ v.In w'.cell? x ∧ Below w.heap.size w w' ∧ (c = 0 ∨ (c = 1 ∧ v.may = true ∧ v.shown.length ≤ 20000))
theorem value_told6 (s : ByteArray) (hs : s.size ≤ 1000000000000000000) (w : World) : Calls Tryd.prog 5 #[.string s] w (Told6 w) := by
  refine (value_law s hs w).mono ?_
  rintro e w' ⟨hb, ⟨x, rfl, hin⟩ | ⟨v, u, x, hsz, hp, rfl, hin⟩⟩
  · exact ⟨_, x, 0, rfl, In.keep (le_on _ _) _ _ hin, hb, .inl rfl⟩
  · have hl : s.data.toList.length ≤ 2000 := by rw [← Lib.size_eq]; exact hsz
    have hf := fine_of hl hp
    have hr := Ps.parse_room hp
    exact ⟨v, x, 1, rfl, In.keep (le_on _ _) _ _ hin, hb, .inr ⟨rfl, hf.1, by omega⟩⟩

/-- The value in its block, while the two texts are made. -/
def ShowHeld (g : Nat) (c0 c1 c2 c3 c4 c5 c6 c7 : Value) (w w' : World) : Prop := At8 w' g c0 c1 c2 c3 c4 c5 c6 c7 ∧ Below w.heap.size w w'
section
variable {g : Nat} {c0 c1 c2 c3 c4 c5 c6 c7 : Value} {w w' w'' : World}
theorem ShowHeld.on (h : ShowHeld g c0 c1 c2 c3 c4 c5 c6 c7 w w') (hb : Below w'.heap.size w' w'') : ShowHeld g c0 c1 c2 c3 c4 c5 c6 c7 w w'' := ⟨h.1.on hb, h.2.trans (hb.mono h.2.size)⟩
theorem ShowHeld.drew (h : ShowHeld g c0 c1 c2 c3 c4 c5 c6 c7 w w') : ShowHeld g c0 c1 c2 c3 c4 c5 c6 c7 w w'.drew := ⟨h.1, h.2.drew⟩
theorem ShowHeld.below (h : ShowHeld g c0 c1 c2 c3 c4 c5 c6 c7 w w') : Below w.heap.size w w' := h.2
end

set_option linter.unusedVariables false in
set_option linter.unusedSimpArgs false in
set_option maxRecDepth 100000 in
set_option maxHeartbeats 2000000 in
theorem showTells_any (s : ByteArray) (w : World) (hT : Tab w) (hs : s.size ≤ 1000000000000000000) :
    Calls Tryd.prog 3 #[.string s] w fun e w' => e = .returned (.bool true) ∧ Below w.heap.size w w' := by
  have HU := Lib.hid (up5_any w hT)
  have HT := Lib.hid hT
  clear hT
  go_enter Tryd.func3, Tryd.ntmps3
  go_wp2_with fail
  refine HU.out.mono ?_
  rintro e w0 ⟨rfl, hb0⟩
  have HB0 := Lib.hid hb0
  have HP := Lib.hid (value_told6 s hs w0)
  clear hb0 HU
  go_wp2_with fail
  refine HP.out.mono ?_
  rintro e w1 ⟨v, x, c, rfl, hx, hb1, hc1⟩
  obtain ⟨k1, b1, n1, g1, x1, s1, A1, l1, p1, B1, m1, z1, rfl⟩ := In.cells hx
  have HC1 := Lib.hid hc1
  have hb01 := HB0.out.trans (hb1.mono HB0.out.size)
  have HB1 := Lib.hid (hb01.alloc hb01.size (.cells #[.int .i64 k1, .bool b1, .bool n1, .string ⟨g1.toArray⟩, .int .i64 x1, .string ⟨s1.toArray⟩, .slice A1 l1 p1, .slice B1 m1 z1] 28))
  have HN := Lib.hid (In.keep (le_alloc w1 (.cells #[.int .i64 k1, .bool b1, .bool n1, .string ⟨g1.toArray⟩, .int .i64 x1, .string ⟨s1.toArray⟩, .slice A1 l1 p1, .slice B1 m1 z1] 28)) _ _ hx)
  have HX := Lib.hid (Blk.new w1 28 #[.int .i64 k1, .bool b1, .bool n1, .string ⟨g1.toArray⟩, .int .i64 x1, .string ⟨s1.toArray⟩, .slice A1 l1 p1, .slice B1 m1 z1])
  clear hx hb1 hc1 hb01 HP HB0
  go_upto_region 3 with (fail)
  generalize w1.alloc (.cells #[.int .i64 k1, .bool b1, .bool n1, .string ⟨g1.toArray⟩, .int .i64 x1, .string ⟨s1.toArray⟩, .slice A1 l1 p1, .slice B1 m1 z1] 28) = w2 at *
  rcases HC1.out with rfl | ⟨rfl, hmay, hlen⟩
  · clear HC1
    go_wp2_with fail
    go_ret
    exact ⟨rfl, HB1.out⟩
  have HT2 := Lib.hid (HT.out.keep HB1.out)
  have HSH := Lib.hid (show ∀ W, Below w2.heap.size w2 W → Calls Tryd.prog 6 #[_] W fun e w'' => e = .returned (.string ⟨v.shown.toArray⟩) ∧ Below W.heap.size W w'' from show_on HT2.out hmay (by omega) HN.out rfl)
  have HRF := Lib.hid (show ∀ W, Below w2.heap.size w2 W → Calls Tryd.prog 7 #[_] W fun e w'' => e = .returned (.string ⟨v.shown.toArray⟩) ∧ Below W.heap.size W w'' from fun W hb => refShowV_any v _ W (In.keep (le_below hb) _ _ HN.out) hmay (by omega))
  have HHELD := Lib.hid (show ShowHeld w1.heap.size (.int .i64 k1) (.bool b1) (.bool n1) (.string ⟨g1.toArray⟩) (.int .i64 x1) (.string ⟨s1.toArray⟩) (.slice A1 l1 p1) (.slice B1 m1 z1) w2 w2 from ⟨HX.out.at8, Below.refl _ _⟩)
  generalize v.shown = tv at *
  clear HC1 hmay hlen
  go_upto_region 5 with (fail)
  go_region_held3 (fun w' => (w'.cell? ⟨w1.heap.size, 0, none⟩ = some (.int .i64 k1) ∧ w'.cell? ⟨w1.heap.size, 1, none⟩ = some (.bool b1) ∧ w'.cell? ⟨w1.heap.size, 2, none⟩ = some (.bool n1) ∧ w'.cell? ⟨w1.heap.size, 3, none⟩ = some (.string ⟨g1.toArray⟩) ∧ w'.cell? ⟨w1.heap.size, 4, none⟩ = some (.int .i64 x1) ∧ w'.cell? ⟨w1.heap.size, 5, none⟩ = some (.string ⟨s1.toArray⟩) ∧ w'.cell? ⟨w1.heap.size, 6, none⟩ = some (.slice A1 l1 p1) ∧ w'.cell? ⟨w1.heap.size, 7, none⟩ = some (.slice B1 m1 z1)) ∧ Below w2.heap.size w2 w')
    ((show ShowHeld w1.heap.size (.int .i64 k1) (.bool b1) (.bool n1) (.string ⟨g1.toArray⟩) (.int .i64 x1) (.string ⟨s1.toArray⟩) (.slice A1 l1 p1) (.slice B1 m1 z1) w2 _; with_reducible first | exact ht | exact ShowHeld.drew HHELD.out | exact HHELD.out))
    (first | (go_at_call 6; refine (HSH.out _ (by have hp : ShowHeld w1.heap.size (.int .i64 k1) (.bool b1) (.bool n1) (.string ⟨g1.toArray⟩) (.int .i64 x1) (.string ⟨s1.toArray⟩) (.slice A1 l1 p1) (.slice B1 m1 z1) w2 _ := (by with_reducible first | exact ht | exact ShowHeld.drew HHELD.out | exact HHELD.out); exact hp.below)).mono ?_; rintro e w6 ⟨rfl, hb6⟩; have ht := ShowHeld.on (by with_reducible first | exact ht | exact ShowHeld.drew HHELD.out | exact HHELD.out) hb6; clear hb6) | (go_at_call 7; refine (HRF.out _ (by have hp : ShowHeld w1.heap.size (.int .i64 k1) (.bool b1) (.bool n1) (.string ⟨g1.toArray⟩) (.int .i64 x1) (.string ⟨s1.toArray⟩) (.slice A1 l1 p1) (.slice B1 m1 z1) w2 _ := (by with_reducible first | exact ht | exact ShowHeld.drew HHELD.out | exact HHELD.out); exact hp.below)).mono ?_; rintro e w6 ⟨rfl, hb6⟩; have ht := ShowHeld.on (by with_reducible first | exact ht | exact ShowHeld.drew HHELD.out | exact HHELD.out) hb6; clear hb6))
  have hbl := ht.2
  clear ht
  go_wp2_with fail
  go_ret
  exact ⟨rfl, HB1.out.trans (hbl.mono HB1.out.size)⟩

end Go.Proofs.YtnnklbfpgmndoaaDoor

