/- The walks of layer 6 (ptr): the program's Parse. -/
import Derived.Test.YtjdkfkjkmjodlaaDoorKb
import Derived.Test.YtjdkfkjkmjodlaaDoorMl
import Derived.Test.YtjdkfkjkmjodlaaDoorMk
namespace Go.Proofs.YtjdkfkjkmjodlaaDoor
open Go.RowKit Pt

/-- What Parse tells: names, or the place that is amiss. -/
def ParsePost (t : List UInt8) (w : World) (e : Ending) (w' : World) : Prop :=
  Below w.heap.size w w' ∧ ((∃ l A, parse t = .ok l ∧ e = .returned (.tuple #[.slice A l.length l.length, .nilIface]) ∧ Strs w'.cell? A l) ∨
    (∃ p b : Nat, parse t = .bad p ∧ e = .returned (.tuple #[.slice none 0 0, spotV b]) ∧ SpotAt w' b p 1))

theorem strs_at {w : World} {g : Nat} {l : List (List UInt8)} (h : Blk w g 9 (strs l).toArray) : Strs w.cell? (some ⟨g, 0, none⟩) l := fun i n hi => by
  refine ⟨g, 0, rfl, ?_⟩
  rw [h.cell, Nat.zero_add]
  simp [strs, hi]
/-- Names, half of them plain. -/
def mixed (l : List (List UInt8)) (j : Nat) : List (List UInt8) := l.take j ++ (l.drop j).map name
theorem mixed_length (l : List (List UInt8)) (j : Nat) : (mixed l j).length = l.length := by
  simp [mixed]; omega
theorem mixed_now (l : List (List UInt8)) (j : Nat) (h : j < l.length) : mixed l j = l.take j ++ name l[j] :: (l.drop (j + 1)).map name := by
  unfold mixed; rw [List.drop_eq_getElem_cons h, List.map_cons]
theorem mixed_next (l : List (List UInt8)) (j : Nat) (h : j < l.length) : mixed l (j + 1) = l.take j ++ l[j] :: (l.drop (j + 1)).map name := by
  unfold mixed; rw [List.take_succ_eq_append_getElem h, List.append_assoc]; rfl
theorem mixed_at (l : List (List UInt8)) (j : Nat) (h : j < l.length) : (strs (mixed l j))[j]? = some (.string ⟨(name l[j]).toArray⟩) := by
  have hl : (strs (l.take j)).length = j := by simp [strs]; omega
  rw [mixed_now l j h, strs_append, List.getElem?_append_right (by omega), hl, Nat.sub_self]; rfl
theorem mixed_set (l : List (List UInt8)) (j : Nat) (h : j < l.length) : (strs (mixed l j)).set j (.string ⟨l[j].toArray⟩) = strs (mixed l (j + 1)) := by
  have hl : (strs (l.take j)).length = j := by simp [strs]; omega
  rw [mixed_now l j h, mixed_next l j h, strs_append, strs_append, List.set_append_right _ _ (by omega), hl, Nat.sub_self]; rfl
theorem mixed_zero (l : List (List UInt8)) : mixed l 0 = l.map name := by simp [mixed]
theorem mixed_all (l : List (List UInt8)) : mixed l l.length = l := by simp [mixed]

/-- How far Parse has come. -/
def Plaining (l : List (List UInt8)) (g : Nat) (w : World) (v : Value) (wr : World) : Prop :=
  ∃ j : Nat, j ≤ l.length ∧ v = .int .i64 j ∧ Blk wr g 9 (strs (mixed l j)).toArray ∧ Below w.heap.size w wr

theorem name_in (l : List (List UInt8)) (j : Nat) (h : j < l.length) : (name l[j]).length ≤ (text l).length := by
  have := text_take_len l j h
  omega

set_option linter.unusedSimpArgs false in
set_option linter.unusedVariables false in
set_option maxRecDepth 100000 in
set_option maxHeartbeats 1000000 in
theorem ptrParse_any (t : List UInt8) (w : World) (hT : MaxT w) (hs : t.length ≤ 100000) :
    Calls Tryd.prog 6 #[.string ⟨t.toArray⟩] w (ParsePost t w) := by
  rcases t with _ | ⟨c0, t0⟩
  · go_enter Tryd.func6, Tryd.ntmps6
    go_wp2_with fail
    go_ret2
    exact ⟨Below.refl _ _, .inl ⟨[], none, rfl, rfl, fun i n h => by simp at h⟩⟩
  have HSZ := Lib.hid (Lib.size_mk (c0 :: t0))
  have hix : ∀ h, (⟨(c0 :: t0).toArray⟩ : ByteArray)[0]'h = c0 := fun _ => rfl
  have q0 : ((c0 :: t0) == ([] : List UInt8)) = false := rfl
  by_cases h47 : c0 = 47
  · subst h47
    have HFL := Lib.hid (findLoose_any (47 :: t0) w (by omega))
    have HT := Lib.hid hT
    clear hT
    cases hlo : loose (47 :: t0) 0 with
    | some p =>
      have HR := Lib.hid (parse_loose t0 p hlo)
      rw [hlo] at HFL
      simp only [Option.getD_some, Option.isSome_some] at HFL
      have hp := loose_ge _ _ _ hlo
      clear hlo
      generalize (47 : UInt8) :: t0 = s at *
      have hs0 : 0 < s.length := by omega
      go_enter Tryd.func6, Tryd.ntmps6
      go_wp2_with fail
      refine HFL.out.mono ?_
      rintro e w1 ⟨rfl, hb1⟩
      go_wp2_with fail
      go_ret2
      exact ⟨hb1.alloc hb1.size _, .inr ⟨p, w1.heap.size, HR.out, rfl, by simp, by simp⟩⟩
    | none =>
      obtain ⟨n, l, hok, ht, hll⟩ := parse_tight t0 hlo
      have HR := Lib.hid hok
      rw [hlo] at HFL
      simp only [Option.getD_none, Option.isSome_none] at HFL
      have HSP := Lib.hid (fun W hT => split_on n l W hT (by rw [← ht]; simp only [List.length_cons] at hs; omega))
      rw [← ht] at HSP
      have HTX := Lib.hid (show (text (n :: l)).length ≤ 100000 by rw [text_cons, ← ht]; exact hs)
      clear hlo hok ht
      have hex : (⟨((47 : UInt8) :: t0).toArray⟩ : ByteArray).extract 1 ((47 :: t0) : List UInt8).length = ⟨t0.toArray⟩ := by
        rw [Lib.extract_mk]; simp
      have hex2 : (⟨((47 : UInt8) :: t0).toArray⟩ : ByteArray).extract 1 (t0.length + 1) = ⟨t0.toArray⟩ := hex
      generalize hls : n :: l = ls at *
      have hln : l.length + 1 = ls.length := by rw [← hls]; rfl
      rw [hln] at HSP
      have hlsl : ls.length ≤ 200000 := by simp only [List.length_cons] at hs; omega
      clear hls
      go_enter Tryd.func6, Tryd.ntmps6
      go_wp2_with fail
      refine HFL.out.mono ?_
      rintro e w1 ⟨rfl, hb1⟩
      have HB1 := Lib.hid hb1
      clear hb1
      go_wp2_with fail
      refine (HSP.out _ (HT.out.on HB1.out)).mono ?_
      rintro e w2 ⟨rfl, hw2⟩
      have HBLK := Lib.hid (show Blk w2 w1.heap.size 9 (strs (mixed ls 0)).toArray by rw [mixed_zero, hw2]; exact Blk.new _ _ _)
      have HB2 := Lib.hid (show Below w.heap.size w w2 by rw [hw2]; exact HB1.out.alloc HB1.out.size _)
      have hg1 := HB1.out.size
      clear hw2 HB1
      generalize w1.heap.size = g at *
      go_wp2_with fail
      go_loopw [32] (Plaining ls g w) (fun v _ => ls.length - (intOf v).toNat)
      case atStart => exact ⟨0, by omega, rfl, HBLK.out, HB2.out⟩
      case round =>
        obtain ⟨j, hj, rfl, hblk, hW⟩ := hrel
        have HBL := Lib.hid hblk
        have HW := Lib.hid hW
        clear hblk hW
        by_cases hlt : j < ls.length
        · have hcell : wr.cell? ⟨g, j, none⟩ = some (.string ⟨(name ls[j]).toArray⟩) := by rw [HBL.out.cell j, List.getElem?_toArray]; exact mixed_at ls j hlt
          have HST := Lib.hid (mixed_set ls j hlt)
          have hnl := name_in ls j hlt
          have hnn := name_ge ls[j]
          have HTX2 := HTX.out
          generalize ls[j] = n1 at *
          have HPL := Lib.hid (fun W hT => plain_any n1 W hT (by omega))
          clear hnl hnn HTX2
          go_wp2_with fail
          refine (HPL.out _ (HT.out.on HW.out)).mono ?_
          rintro e w3 ⟨rfl, hw3⟩
          have hb3 := HBL.out.on hw3
          have HB3 := Lib.hid hb3
          have HW3 := Lib.hid (HW.out.trans (hw3.mono HW.out.size))
          have hc3 : w3.cell? ⟨g, j, none⟩ = some (.string ⟨(name n1).toArray⟩) := by rw [le_below hw3 _ _ hcell]
          have hfz := hb3.frozen j
          have hgl := hb3.lt
          clear hb3 hw3 hcell
          go_wp2_with fail
          go_roundw
          case rel => exact ⟨j + 1, by omega, by go_num, HST.out ▸ HB3.out.setL j _, HW3.out.setCell (p := ⟨g, j, none⟩) hg1 _⟩
          case measure => simp [intOf]; omega
        · obtain rfl : j = ls.length := by omega
          have HBL2 := HBL.out
          rw [mixed_all] at HBL2
          have HBL3 := Lib.hid HBL2
          clear HBL2
          go_wp2_with fail
          go_ret2
          exact ⟨HW.out, .inl ⟨ls, _, HR.out, rfl, strs_at HBL3.out⟩⟩
  · have hc : ((c0.toNat : Int) != 47) = true := by
      rw [bne_iff_ne]; intro e; exact h47 (UInt8.toNat_inj.1 (by show c0.toNat = 47; omega))
    have HR := Lib.hid (show parse (c0 :: t0) = .bad 0 from if_neg h47)
    clear h47
    go_enter Tryd.func6, Tryd.ntmps6
    go_wp2_with fail
    go_ret2
    exact ⟨(Below.refl _ _).alloc (Nat.le_refl _) _, .inr ⟨0, w.heap.size, HR.out, rfl, by simp, by simp⟩⟩

end Go.Proofs.YtjdkfkjkmjodlaaDoor

