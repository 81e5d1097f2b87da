/- Ml: Sg Sh, in one text. -/
import Derived.Test.YtnnklbfpgmndoaaGreatDoorMk
import Derived.Test.YtnnklbfpgmndoaaGreatDoorWb
import Derived.Lib.RuneBytes
/- The walks of layer 2 (str), third part: lowHalf, numbered. -/
namespace Go.Proofs.YtnnklbfpgmndoaaGreatDoor
open Go.RowKit

theorem St.half_hit (t : List UInt8) : Lib.hasPrefix (92 :: 117 :: t) [92, 117] = true ∧ Lib.trimPrefix (92 :: 117 :: t) [92, 117] = t := by
  have h : Lib.hasPrefix (92 :: 117 :: t) [92, 117] = true := by simp [Lib.hasPrefix]
  exact ⟨h, by unfold Lib.trimPrefix; rw [h]; rfl⟩

theorem St.half_miss (l : List UInt8) : (∃ t, l = 92 :: 117 :: t) ∨ (Lib.hasPrefix l [92, 117] = false ∧ St.half l = (0, false)) := by
  match l with
  | [] => exact .inr ⟨rfl, rfl⟩
  | [a] => exact .inr ⟨by simp [Lib.hasPrefix, List.isPrefixOf], rfl⟩
  | a :: b :: t =>
    by_cases h : a = 92 ∧ b = 117
    · obtain ⟨rfl, rfl⟩ := h; exact .inl ⟨t, rfl⟩
    · refine .inr ⟨?_, by rw [St.half_two, if_neg h]⟩
      simp only [Lib.hasPrefix, List.isPrefixOf, Bool.and_true, Bool.and_eq_false_iff, beq_eq_false_iff_ne, ne_eq]
      by_cases e : a = 92
      · right; intro e2; exact h ⟨e, e2.symm⟩
      · left; intro e2; exact e e2.symm

set_option maxHeartbeats 400000 in
theorem lowHalf_any (s : ByteArray) (w : World) (hs : s.size ≤ 4000000000000000000) :
    Calls Tryz.prog 148 #[.string s] w fun e w' => e = .returned (.tuple #[.int .i32 (St.half s.data.toList).1, .bool (St.half s.data.toList).2]) ∧ w = w' := by
  have hl : s.data.toList.length ≤ 4000000000000000000 := by rw [← Lib.size_eq]; exact hs
  rcases St.half_miss s.data.toList with ⟨t, ht⟩ | ⟨h1, h2⟩
  · obtain ⟨p1, p2⟩ := St.half_hit t
    rw [ht] at hl
    have HT := Lib.hid ht
    have P1 := Lib.hid p1
    have P2 := Lib.hid p2
    clear ht p1 p2
    go_enter Tryz.func148, Tryz.ntmps148
    go_wp2_with fail
    refine (Tryz.strings_CutPrefix _ _ _).mono ?_
    rw [HT.out, show (⟨#[92, 117]⟩ : ByteArray).data.toList = [92, 117] from rfl, P1.out, P2.out]
    rintro e w' ⟨rfl, rfl⟩
    go_wp2_with fail
    refine (fourDigits_any _ _ (by rw [Lib.size_mk]; simp at hl; omega)).mono ?_
    rw [show (⟨t.toArray⟩ : ByteArray).data.toList = t from rfl]
    rintro e w' ⟨rfl, rfl⟩
    have h4 := St.four_le t
    have hlt := St.four_lt t
    have HH := Lib.hid (show St.half (92 :: 117 :: t) = ((St.four t).1, decide ((St.four t).2 = 4) && St.isLow (St.four t).1) by rw [St.half_two, if_pos ⟨rfl, rfl⟩])
    generalize St.four t = f at HH h4 hlt ⊢
    obtain ⟨v, n⟩ := f
    simp only at h4 hlt HH
    by_cases hn : n = 4
    · subst hn
      go_wp2_with fail
      refine (isLow_any _ _).mono ?_
      rintro e w' ⟨rfl, rfl⟩
      go_wp2
      go_ret2
      refine ⟨?_, rfl⟩
      rw [HT.out, HH.out]
      simp
    · have hn' : ((n : Int) == 4) = false := by simp; omega
      have HN := Lib.hid hn
      clear hn
      go_wp2
      go_ret2
      refine ⟨?_, rfl⟩
      rw [HT.out, HH.out]
      simp [HN.out]
  · have H1 := Lib.hid h1
    have H2 := Lib.hid h2
    clear h1 h2
    go_enter Tryz.func148, Tryz.ntmps148
    go_wp2_with fail
    refine (Tryz.strings_CutPrefix _ _ _).mono ?_
    rw [show (⟨#[92, 117]⟩ : ByteArray).data.toList = [92, 117] from rfl, H1.out]
    rintro e w' ⟨rfl, rfl⟩
    go_wp2
    go_ret2
    refine ⟨?_, rfl⟩
    rw [H2.out]
    rfl

/-- An error with its place, in a world. -/
def SpotAt (w : World) (b : Nat) (a k : Int) : Prop := w.cell? ⟨b, 0, none⟩ = some (.int .i64 a) ∧ w.cell? ⟨b, 1, none⟩ = some (.int .i64 k)

/-- A call that fails, with its place. -/
def Bad (x : Value) (a k : Int) (w : World) (e : Ending) (w' : World) : Prop := ∃ b, e = .returned (.tuple #[x, .int .i64 0, spotV b]) ∧ w.heap.size ≤ b ∧ SpotAt w' b a k ∧ Below w.heap.size w w'

theorem Bad.new (x : Value) (a k : Int) {w W : World} (h : Below w.heap.size w W) : Bad x a k w (.returned (.tuple #[x, .int .i64 0, spotV W.heap.size])) (W.alloc (spotO a k)) :=
  ⟨W.heap.size, rfl, h.size, ⟨by simp, by simp⟩, h.alloc h.size _⟩

/-- What a call tells of what stands at a place. -/
def ChrPost (i : Nat) (c : St.Chr) (w : World) (e : Ending) (w' : World) : Prop := match c with
  | .ok r n => e = .returned (.tuple #[.int .i32 r, .int .i64 n, .nilIface]) ∧ Below w.heap.size w w'
  | .bad k o => Bad (.int .i32 0) ((i + o : Nat) : Int) k w e w'

theorem ChrPost.bad {i : Nat} {c : St.Chr} {w : World} {e : Ending} {w' : World} {k o : Nat} (hc : c = .bad k o) (h : Bad (.int .i32 0) ((i + o : Nat) : Int) k w e w') : ChrPost i c w e w' := by
  subst hc; exact h
theorem ChrPost.ok {i : Nat} {c : St.Chr} {w : World} {e : Ending} {w' : World} {r n : Nat} (hc : c = .ok r n) (h : e = .returned (.tuple #[.int .i32 r, .int .i64 n, .nilIface]) ∧ Below w.heap.size w w') : ChrPost i c w e w' := by
  subst hc; exact h
theorem Bad.new' (x : Value) {a a' : Int} {k k' : Int} {w W : World} (h : Below w.heap.size w W) (ha : a = a') (hk : k = k') : Bad x a k w (.returned (.tuple #[x, .int .i64 0, spotV W.heap.size])) (W.alloc (spotO a' k')) := by
  subst ha hk; exact Bad.new x a k h

set_option maxHeartbeats 1000000 in
theorem numbered_any (s : ByteArray) (i : Nat) (u : List UInt8) (w : World) (hs : s.size ≤ 4000000000000000000) (hi : i + 2 ≤ s.size) (hu : s.data.toList.drop (i + 2) = u) :
    Calls Tryz.prog 137 #[.string s, .int .i64 i] w (ChrPost i (St.num u) w) := by
  have hlen : u.length = s.size - (i + 2) := by rw [← hu, List.length_drop, ← Lib.size_eq]
  have h4 := St.four_le u
  have hlt := St.four_lt u
  have hu6 : s.data.toList.drop (i + 6) = u.drop 4 := by rw [← hu, List.drop_drop]
  have HU := Lib.hid hu
  have HU6 := Lib.hid hu6
  clear hu hu6
  have HN : Hid (∀ v n, St.four u = (v, n) → St.num u = if n < 4 then .bad 1 (2 + n)
      else if St.isHigh v = false ∧ St.isLow v = false then .ok v 6
      else if St.isLow v = true ∨ (St.half (u.drop 4)).2 = false then .bad 2 0
      else .ok (65536 + (v - 55296) * 1024 + ((St.half (u.drop 4)).1 - 56320)) 12) := Lib.hid (fun v n h => by unfold St.num; rw [h])
  go_enter Tryz.func137, Tryz.ntmps137
  go_wp2_with fail
  rw [Lib.extract_from, HU.out]
  refine (fourDigits_any _ _ (by rw [Lib.size_mk]; omega)).mono ?_
  rw [show (⟨u.toArray⟩ : ByteArray).data.toList = u from rfl]
  rintro e w' ⟨rfl, rfl⟩
  cases hf : St.four u with
  | mk v n =>
  have HN' := Lib.hid (HN.out v n hf)
  rw [hf] at h4 hlt
  clear HN hf
  simp only at h4 hlt
  by_cases hn : n < 4
  · rw [if_pos hn] at HN'
    go_wp2_with fail
    refine (wrong_any _ _ _).mono ?_
    rintro e w' ⟨rfl, rfl⟩
    go_wp2
    go_ret3
    exact ChrPost.bad HN'.out (Bad.new' _ (Below.refl _ _) (by omega) rfl)
  · rw [if_neg hn] at HN'
    obtain rfl : n = 4 := by omega
    clear hn
    go_wp2_with fail
    refine (isHigh_any _ _).mono ?_
    rintro e w' ⟨rfl, rfl⟩
    cases hh : St.isHigh v
    · rw [hh] at HN'
      clear hh
      go_wp2_with fail
      refine (isLow_any _ _).mono ?_
      rintro e w' ⟨rfl, rfl⟩
      cases hw : St.isLow v
      · rw [hw, if_pos (by simp)] at HN'
        clear hw
        go_wp2
        go_ret3
        exact ChrPost.ok HN'.out ⟨rfl, Below.refl _ _⟩
      · rw [hw, if_neg (by simp), if_pos (.inl rfl)] at HN'
        have hw' := hw
        simp only [St.isLow, Bool.and_eq_true, decide_eq_true_eq] at hw'
        have HW := Lib.hid hw
        clear hw
        go_wp2_with fail
        rw [Lib.extract_from, HU6.out]
        refine (lowHalf_any _ _ (by rw [Lib.size_mk, List.length_drop]; omega)).mono ?_
        rintro e w' ⟨rfl, rfl⟩
        generalize St.half _ = hf
        obtain ⟨lv, lb⟩ := hf
        go_wp2_with fail
        refine (isLow_any _ _).mono ?_
        rintro e w' ⟨rfl, rfl⟩
        rw [HW.out]
        go_wp2_with fail
        refine (wrong_any _ _ _).mono ?_
        rintro e w' ⟨rfl, rfl⟩
        go_wp2
        go_ret3
        exact ChrPost.bad HN'.out (Bad.new' _ (Below.refl _ _) (by omega) rfl)
    · rw [hh, if_neg (by simp)] at HN'
      have hh' := hh
      simp only [St.isHigh, Bool.and_eq_true, decide_eq_true_eq] at hh'
      have hw : St.isLow v = false := by unfold St.isLow; rw [decide_eq_false (by omega)]; rfl
      rw [hw] at HN'
      have HW := Lib.hid hw
      clear hh hw
      go_wp2_with fail
      rw [Lib.extract_from, HU6.out]
      refine (lowHalf_any _ _ (by rw [Lib.size_mk, List.length_drop]; omega)).mono ?_
      rw [show (⟨(u.drop 4).toArray⟩ : ByteArray).data.toList = u.drop 4 from rfl]
      rintro e w' ⟨rfl, rfl⟩
      have hht := @St.half_true (u.drop 4)
      generalize St.half (u.drop 4) = hf at HN' hht ⊢
      obtain ⟨lv, lb⟩ := hf
      simp only at HN' hht
      cases lb
      · rw [if_pos (.inr rfl)] at HN'
        clear hht
        go_wp2_with fail
        refine (isLow_any _ _).mono ?_
        rintro e w' ⟨rfl, rfl⟩
        rw [HW.out]
        go_wp2_with fail
        refine (wrong_any _ _ _).mono ?_
        rintro e w' ⟨rfl, rfl⟩
        go_wp2
        go_ret3
        exact ChrPost.bad HN'.out (Bad.new' _ (Below.refl _ _) (by omega) rfl)
      · rw [if_neg (by simp)] at HN'
        have hlv := (hht rfl).2.2
        simp only [St.isLow, Bool.and_eq_true, decide_eq_true_eq] at hlv
        clear hht
        go_wp2_with fail
        refine (isLow_any _ _).mono ?_
        rintro e w' ⟨rfl, rfl⟩
        rw [HW.out]
        go_wp2
        go_ret3
        refine ChrPost.ok HN'.out ⟨?_, Below.refl _ _⟩
        simp
        omega

end Go.Proofs.YtnnklbfpgmndoaaGreatDoor

/- The walks of layer 2 (str), fourth part: escape. -/
namespace Go.Proofs.YtnnklbfpgmndoaaGreatDoor
open Go.RowKit

theorem len_at {s : ByteArray} {i : Nat} (h : i < s.size) : i < s.data.toList.length := by rw [← Lib.size_eq]; exact h
theorem drop_at (s : ByteArray) (i : Nat) (h : i < s.size) : s.data.toList.drop i = s.data.toList[i]'(len_at h) :: s.data.toList.drop (i + 1) := List.drop_eq_getElem_cons (len_at h)

theorem byte_eqb {c : UInt8} (k : UInt8) (h : c = k) : ((c.toNat : Int) == (k.toNat : Int)) = true := by subst h; simp
theorem byte_neb {c : UInt8} (k : UInt8) (h : ¬ c = k) : ((c.toNat : Int) == (k.toNat : Int)) = false := by
  rw [beq_eq_false_iff_ne]
  intro e
  exact h (UInt8.toNat_inj.1 (by omega))

set_option linter.unusedSimpArgs false in
set_option maxHeartbeats 1000000 in
theorem escape_any (s : ByteArray) (i : Nat) (w : World) (hs : s.size ≤ 4000000000000000000) (hi : i < s.size) :
    Calls Tryz.prog 122 #[.string s, .int .i64 i] w (ChrPost i (St.esc (s.data.toList.drop (i + 1))) w) := by
  by_cases h1 : i + 1 = s.size
  · have HE := Lib.hid (show St.esc (s.data.toList.drop (i + 1)) = .bad 1 1 by rw [List.drop_eq_nil_of_le (by rw [← Lib.size_eq]; omega)]; rfl)
    have h1' : ((i : Int) + 1 == (s.size : Int)) = true := by simp; omega
    have H1 := Lib.hid h1
    clear h1
    go_enter Tryz.func122, Tryz.ntmps122
    go_wp2_with fail
    refine (wrong_any _ _ _).mono ?_
    rintro e w' ⟨rfl, rfl⟩
    go_wp2
    go_ret3
    exact ChrPost.bad HE.out (Bad.new' _ (Below.refl _ _) (by have := H1.out; omega) rfl)
  · have h1' : ((i : Int) + 1 == (s.size : Int)) = false := by rw [beq_eq_false_iff_ne]; omega
    have hlt : i + 1 < s.size := by omega
    have hd := drop_at s (i + 1) hlt
    have HNB := fun (w : World) => numbered_any s i (s.data.toList.drop (i + 1 + 1)) w hs (by omega) rfl
    have hix : ∀ h, s[i + 1]'h = s.data.toList[i + 1]'(len_at hlt) := fun _ => rfl
    rw [hd]
    clear h1 hd
    generalize s.data.toList[i + 1]'(len_at hlt) = c at hix ⊢
    have HX := Lib.hid (St.esc_cons c (s.data.toList.drop (i + 1 + 1)))
    generalize s.data.toList.drop (i + 1 + 1) = u at HX HNB ⊢
    have h256 := c.toNat_lt
    by_cases c34 : c = 34
    · have b34 : ((c.toNat : Int) == 34) = true := byte_eqb 34 c34
      have C := Lib.hid c34
      have HC := Lib.hid (show (c.toNat : Int) = 34 by rw [c34]; rfl)
      rw [c34, show St.simple 34 = some 34 from rfl] at HX
      clear c34
      go_enter Tryz.func122, Tryz.ntmps122
      go_wp2
      go_ret3
      rw [C.out]
      exact ChrPost.ok HX.out ⟨by simp [HC.out], Below.refl _ _⟩
    · have b34 : ((c.toNat : Int) == 34) = false := byte_neb 34 c34
      by_cases c92 : c = 92
      · have b92 : ((c.toNat : Int) == 92) = true := byte_eqb 92 c92
        have C := Lib.hid c92
        have HC := Lib.hid (show (c.toNat : Int) = 92 by rw [c92]; rfl)
        rw [c92, show St.simple 92 = some 92 from rfl] at HX
        clear c92
        go_enter Tryz.func122, Tryz.ntmps122
        go_wp2
        go_ret3
        rw [C.out]
        exact ChrPost.ok HX.out ⟨by simp [HC.out], Below.refl _ _⟩
      · have b92 : ((c.toNat : Int) == 92) = false := byte_neb 92 c92
        by_cases c47 : c = 47
        · have b47 : ((c.toNat : Int) == 47) = true := byte_eqb 47 c47
          have C := Lib.hid c47
          have HC := Lib.hid (show (c.toNat : Int) = 47 by rw [c47]; rfl)
          rw [c47, show St.simple 47 = some 47 from rfl] at HX
          clear c47
          go_enter Tryz.func122, Tryz.ntmps122
          go_wp2
          go_ret3
          rw [C.out]
          exact ChrPost.ok HX.out ⟨by simp [HC.out], Below.refl _ _⟩
        · have b47 : ((c.toNat : Int) == 47) = false := byte_neb 47 c47
          by_cases c98 : c = 98
          · have b98 : ((c.toNat : Int) == 98) = true := byte_eqb 98 c98
            have C := Lib.hid c98
            have HC := Lib.hid (show (c.toNat : Int) = 98 by rw [c98]; rfl)
            rw [c98, show St.simple 98 = some 8 from rfl] at HX
            clear c98
            go_enter Tryz.func122, Tryz.ntmps122
            go_wp2
            go_ret3
            rw [C.out]
            exact ChrPost.ok HX.out ⟨rfl, Below.refl _ _⟩
          · have b98 : ((c.toNat : Int) == 98) = false := byte_neb 98 c98
            by_cases c102 : c = 102
            · have b102 : ((c.toNat : Int) == 102) = true := byte_eqb 102 c102
              have C := Lib.hid c102
              have HC := Lib.hid (show (c.toNat : Int) = 102 by rw [c102]; rfl)
              rw [c102, show St.simple 102 = some 12 from rfl] at HX
              clear c102
              go_enter Tryz.func122, Tryz.ntmps122
              go_wp2
              go_ret3
              rw [C.out]
              exact ChrPost.ok HX.out ⟨rfl, Below.refl _ _⟩
            · have b102 : ((c.toNat : Int) == 102) = false := byte_neb 102 c102
              by_cases c110 : c = 110
              · have b110 : ((c.toNat : Int) == 110) = true := byte_eqb 110 c110
                have C := Lib.hid c110
                have HC := Lib.hid (show (c.toNat : Int) = 110 by rw [c110]; rfl)
                rw [c110, show St.simple 110 = some 10 from rfl] at HX
                clear c110
                go_enter Tryz.func122, Tryz.ntmps122
                go_wp2
                go_ret3
                rw [C.out]
                exact ChrPost.ok HX.out ⟨rfl, Below.refl _ _⟩
              · have b110 : ((c.toNat : Int) == 110) = false := byte_neb 110 c110
                by_cases c114 : c = 114
                · have b114 : ((c.toNat : Int) == 114) = true := byte_eqb 114 c114
                  have C := Lib.hid c114
                  have HC := Lib.hid (show (c.toNat : Int) = 114 by rw [c114]; rfl)
                  rw [c114, show St.simple 114 = some 13 from rfl] at HX
                  clear c114
                  go_enter Tryz.func122, Tryz.ntmps122
                  go_wp2
                  go_ret3
                  rw [C.out]
                  exact ChrPost.ok HX.out ⟨rfl, Below.refl _ _⟩
                · have b114 : ((c.toNat : Int) == 114) = false := byte_neb 114 c114
                  by_cases c116 : c = 116
                  · have b116 : ((c.toNat : Int) == 116) = true := byte_eqb 116 c116
                    have C := Lib.hid c116
                    have HC := Lib.hid (show (c.toNat : Int) = 116 by rw [c116]; rfl)
                    rw [c116, show St.simple 116 = some 9 from rfl] at HX
                    clear c116
                    go_enter Tryz.func122, Tryz.ntmps122
                    go_wp2
                    go_ret3
                    rw [C.out]
                    exact ChrPost.ok HX.out ⟨rfl, Below.refl _ _⟩
                  · have b116 : ((c.toNat : Int) == 116) = false := byte_neb 116 c116
                    have hsim : St.simple c = none := by unfold St.simple; simp [c34, c92, c47, c98, c102, c110, c114, c116]
                    rw [hsim] at HX
                    simp only at HX
                    clear hsim c34 c92 c47 c98 c102 c110 c114 c116
                    by_cases c117 : c = 117
                    · have b117 : ((c.toNat : Int) == 117) = true := byte_eqb 117 c117
                      rw [if_pos c117] at HX
                      have C := Lib.hid c117
                      clear c117
                      have HNB' := Lib.hid HNB
                      clear HNB
                      go_enter Tryz.func122, Tryz.ntmps122
                      go_wp2_with fail
                      refine (HNB'.out _).mono ?_
                      intro e w' h
                      rw [← HX.out] at h
                      cases hn : St.esc (c :: u) with
                      | ok r n =>
                        rw [hn] at h
                        obtain ⟨rfl, hb⟩ := h
                        have HN := Lib.hid hn
                        clear hn
                        go_wp2
                        go_ret3
                        exact ChrPost.ok HN.out ⟨rfl, hb⟩
                      | bad k o =>
                        rw [hn] at h
                        obtain ⟨b, rfl, hb1, hb2, hb3⟩ := h
                        have HN := Lib.hid hn
                        clear hn
                        go_wp2
                        go_ret3
                        exact ChrPost.bad HN.out ⟨b, rfl, hb1, hb2, hb3⟩
                    · have b117 : ((c.toNat : Int) == 117) = false := byte_neb 117 c117
                      rw [if_neg c117] at HX
                      clear c117 HNB
                      go_enter Tryz.func122, Tryz.ntmps122
                      go_wp2_with fail
                      refine (wrong_any _ _ _).mono ?_
                      rintro e w' ⟨rfl, rfl⟩
                      go_wp2
                      go_ret3
                      exact ChrPost.bad HX.out (Bad.new' _ (Below.refl _ _) (by omega) rfl)

end Go.Proofs.YtnnklbfpgmndoaaGreatDoor


