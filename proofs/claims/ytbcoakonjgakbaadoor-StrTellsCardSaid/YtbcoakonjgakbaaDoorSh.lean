/- The walks of layer 2 (str), fourth part: escape. -/
import Derived.Test.YtbcoakonjgakbaaDoorSg
namespace Go.Proofs.YtbcoakonjgakbaaDoor
open Go.RowKit

theorem len_at {s : ByteArray} {i : Nat} (h : i < s.size) : i < s.data.toList.length := by rw [← Lib.size_eq]; exact h
theorem drop_at (s : ByteArray) (i : Nat) (h : i < s.size) : s.data.toList.drop i = s.data.toList[i]'(len_at h) :: s.data.toList.drop (i + 1) := List.drop_eq_getElem_cons (len_at h)

theorem byte_eqb {c : UInt8} (k : UInt8) (h : c = k) : ((c.toNat : Int) == (k.toNat : Int)) = true := by subst h; simp
theorem byte_neb {c : UInt8} (k : UInt8) (h : ¬ c = k) : ((c.toNat : Int) == (k.toNat : Int)) = false := by
  rw [beq_eq_false_iff_ne]
  intro e
  exact h (UInt8.toNat_inj.1 (by omega))

set_option linter.unusedSimpArgs false in
set_option maxHeartbeats 1000000 in
theorem escape_any (s : ByteArray) (i : Nat) (w : World) (hs : s.size ≤ 4000000000000000000) (hi : i < s.size) :
    Calls Tryd.prog 61 #[.string s, .int .i64 i] w (ChrPost i (St.esc (s.data.toList.drop (i + 1))) w) := by
  by_cases h1 : i + 1 = s.size
  · have HE := Lib.hid (show St.esc (s.data.toList.drop (i + 1)) = .bad 1 1 by rw [List.drop_eq_nil_of_le (by rw [← Lib.size_eq]; omega)]; rfl)
    have h1' : ((i : Int) + 1 == (s.size : Int)) = true := by simp; omega
    have H1 := Lib.hid h1
    clear h1
    go_enter Tryd.func61, Tryd.ntmps61
    go_wp2_with fail
    refine (wrong_any _ _ _).mono ?_
    rintro e w' ⟨rfl, rfl⟩
    go_wp2
    go_ret3
    exact ChrPost.bad HE.out (Bad.new' _ (Below.refl _ _) (by have := H1.out; omega) rfl)
  · have h1' : ((i : Int) + 1 == (s.size : Int)) = false := by rw [beq_eq_false_iff_ne]; omega
    have hlt : i + 1 < s.size := by omega
    have hd := drop_at s (i + 1) hlt
    have HNB := fun (w : World) => numbered_any s i (s.data.toList.drop (i + 1 + 1)) w hs (by omega) rfl
    have hix : ∀ h, s[i + 1]'h = s.data.toList[i + 1]'(len_at hlt) := fun _ => rfl
    rw [hd]
    clear h1 hd
    generalize s.data.toList[i + 1]'(len_at hlt) = c at hix ⊢
    have HX := Lib.hid (St.esc_cons c (s.data.toList.drop (i + 1 + 1)))
    generalize s.data.toList.drop (i + 1 + 1) = u at HX HNB ⊢
    have h256 := c.toNat_lt
    by_cases c34 : c = 34
    · have b34 : ((c.toNat : Int) == 34) = true := byte_eqb 34 c34
      have C := Lib.hid c34
      have HC := Lib.hid (show (c.toNat : Int) = 34 by rw [c34]; rfl)
      rw [c34, show St.simple 34 = some 34 from rfl] at HX
      clear c34
      go_enter Tryd.func61, Tryd.ntmps61
      go_wp2
      go_ret3
      rw [C.out]
      exact ChrPost.ok HX.out ⟨by simp [HC.out], Below.refl _ _⟩
    · have b34 : ((c.toNat : Int) == 34) = false := byte_neb 34 c34
      by_cases c92 : c = 92
      · have b92 : ((c.toNat : Int) == 92) = true := byte_eqb 92 c92
        have C := Lib.hid c92
        have HC := Lib.hid (show (c.toNat : Int) = 92 by rw [c92]; rfl)
        rw [c92, show St.simple 92 = some 92 from rfl] at HX
        clear c92
        go_enter Tryd.func61, Tryd.ntmps61
        go_wp2
        go_ret3
        rw [C.out]
        exact ChrPost.ok HX.out ⟨by simp [HC.out], Below.refl _ _⟩
      · have b92 : ((c.toNat : Int) == 92) = false := byte_neb 92 c92
        by_cases c47 : c = 47
        · have b47 : ((c.toNat : Int) == 47) = true := byte_eqb 47 c47
          have C := Lib.hid c47
          have HC := Lib.hid (show (c.toNat : Int) = 47 by rw [c47]; rfl)
          rw [c47, show St.simple 47 = some 47 from rfl] at HX
          clear c47
          go_enter Tryd.func61, Tryd.ntmps61
          go_wp2
          go_ret3
          rw [C.out]
          exact ChrPost.ok HX.out ⟨by simp [HC.out], Below.refl _ _⟩
        · have b47 : ((c.toNat : Int) == 47) = false := byte_neb 47 c47
          by_cases c98 : c = 98
          · have b98 : ((c.toNat : Int) == 98) = true := byte_eqb 98 c98
            have C := Lib.hid c98
            have HC := Lib.hid (show (c.toNat : Int) = 98 by rw [c98]; rfl)
            rw [c98, show St.simple 98 = some 8 from rfl] at HX
            clear c98
            go_enter Tryd.func61, Tryd.ntmps61
            go_wp2
            go_ret3
            rw [C.out]
            exact ChrPost.ok HX.out ⟨rfl, Below.refl _ _⟩
          · have b98 : ((c.toNat : Int) == 98) = false := byte_neb 98 c98
            by_cases c102 : c = 102
            · have b102 : ((c.toNat : Int) == 102) = true := byte_eqb 102 c102
              have C := Lib.hid c102
              have HC := Lib.hid (show (c.toNat : Int) = 102 by rw [c102]; rfl)
              rw [c102, show St.simple 102 = some 12 from rfl] at HX
              clear c102
              go_enter Tryd.func61, Tryd.ntmps61
              go_wp2
              go_ret3
              rw [C.out]
              exact ChrPost.ok HX.out ⟨rfl, Below.refl _ _⟩
            · have b102 : ((c.toNat : Int) == 102) = false := byte_neb 102 c102
              by_cases c110 : c = 110
              · have b110 : ((c.toNat : Int) == 110) = true := byte_eqb 110 c110
                have C := Lib.hid c110
                have HC := Lib.hid (show (c.toNat : Int) = 110 by rw [c110]; rfl)
                rw [c110, show St.simple 110 = some 10 from rfl] at HX
                clear c110
                go_enter Tryd.func61, Tryd.ntmps61
                go_wp2
                go_ret3
                rw [C.out]
                exact ChrPost.ok HX.out ⟨rfl, Below.refl _ _⟩
              · have b110 : ((c.toNat : Int) == 110) = false := byte_neb 110 c110
                by_cases c114 : c = 114
                · have b114 : ((c.toNat : Int) == 114) = true := byte_eqb 114 c114
                  have C := Lib.hid c114
                  have HC := Lib.hid (show (c.toNat : Int) = 114 by rw [c114]; rfl)
                  rw [c114, show St.simple 114 = some 13 from rfl] at HX
                  clear c114
                  go_enter Tryd.func61, Tryd.ntmps61
                  go_wp2
                  go_ret3
                  rw [C.out]
                  exact ChrPost.ok HX.out ⟨rfl, Below.refl _ _⟩
                · have b114 : ((c.toNat : Int) == 114) = false := byte_neb 114 c114
                  by_cases c116 : c = 116
                  · have b116 : ((c.toNat : Int) == 116) = true := byte_eqb 116 c116
                    have C := Lib.hid c116
                    have HC := Lib.hid (show (c.toNat : Int) = 116 by rw [c116]; rfl)
                    rw [c116, show St.simple 116 = some 9 from rfl] at HX
                    clear c116
                    go_enter Tryd.func61, Tryd.ntmps61
                    go_wp2
                    go_ret3
                    rw [C.out]
                    exact ChrPost.ok HX.out ⟨rfl, Below.refl _ _⟩
                  · have b116 : ((c.toNat : Int) == 116) = false := byte_neb 116 c116
                    have hsim : St.simple c = none := by unfold St.simple; simp [c34, c92, c47, c98, c102, c110, c114, c116]
                    rw [hsim] at HX
                    simp only at HX
                    clear hsim c34 c92 c47 c98 c102 c110 c114 c116
                    by_cases c117 : c = 117
                    · have b117 : ((c.toNat : Int) == 117) = true := byte_eqb 117 c117
                      rw [if_pos c117] at HX
                      have C := Lib.hid c117
                      clear c117
                      have HNB' := Lib.hid HNB
                      clear HNB
                      go_enter Tryd.func61, Tryd.ntmps61
                      go_wp2_with fail
                      refine (HNB'.out _).mono ?_
                      intro e w' h
                      rw [← HX.out] at h
                      cases hn : St.esc (c :: u) with
                      | ok r n =>
                        rw [hn] at h
                        obtain ⟨rfl, hb⟩ := h
                        have HN := Lib.hid hn
                        clear hn
                        go_wp2
                        go_ret3
                        exact ChrPost.ok HN.out ⟨rfl, hb⟩
                      | bad k o =>
                        rw [hn] at h
                        obtain ⟨b, rfl, hb1, hb2, hb3⟩ := h
                        have HN := Lib.hid hn
                        clear hn
                        go_wp2
                        go_ret3
                        exact ChrPost.bad HN.out ⟨b, rfl, hb1, hb2, hb3⟩
                    · have b117 : ((c.toNat : Int) == 117) = false := byte_neb 117 c117
                      rw [if_neg c117] at HX
                      clear c117 HNB
                      go_enter Tryd.func61, Tryd.ntmps61
                      go_wp2_with fail
                      refine (wrong_any _ _ _).mono ?_
                      rintro e w' ⟨rfl, rfl⟩
                      go_wp2
                      go_ret3
                      exact ChrPost.bad HX.out (Bad.new' _ (Below.refl _ _) (by omega) rfl)

end Go.Proofs.YtbcoakonjgakbaaDoor
