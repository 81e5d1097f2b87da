/- The walks of layer 6 (ptr): the document's Index. -/
import Derived.Test.YtjdkfkjkmjodlaaDoorPp
import Derived.Test.YtjdkfkjkmjodlaaDoorMo
namespace Go.Proofs.YtjdkfkjkmjodlaaDoor.Pt

theorem pre_full (nm : List UInt8) : (Nm.pre nm).length = nm.length ↔ nm.all Nm.dig = true := by
  constructor
  · intro h
    have hs : Nm.pre nm = nm := (List.takeWhile_sublist Nm.dig).eq_of_length h
    rw [List.all_eq_true]
    intro c hc
    exact Nm.pre_dig nm c (by rw [hs]; exact hc)
  · intro h
    have : Nm.pre nm = nm := by
      have := (Nm.pre_all nm [] (fun c hc => (List.all_eq_true.1 h) c hc) (fun c hc => by cases hc)).1
      rwa [List.append_nil] at this
    rw [this]
theorem val_take (nm : List UInt8) (j : Nat) (h : j < nm.length) : Nm.val (nm.take (j + 1)) = 10 * Nm.val (nm.take j) + (nm[j].toNat - 48) := by
  rw [List.take_succ_eq_append_getElem h, Nm.val_snoc]
theorem val_small (nm : List UInt8) (h : nm.all Nm.dig = true) (hl : nm.length ≤ 18) (j : Nat) : Nm.val (nm.take j) < 1000000000000000000 := by
  have h1 := Nm.val_lt (nm.take j) (fun c hc => (List.all_eq_true.1 h) c (List.mem_of_mem_take hc))
  have h2 : (nm.take j).length ≤ 18 := by rw [List.length_take]; omega
  have h3 : 10 ^ (nm.take j).length ≤ 10 ^ 18 := Nat.pow_le_pow_right (by omega) h2
  omega
theorem val_step (nm : List UInt8) (h : nm.all Nm.dig = true) (hl : nm.length ≤ 18) (j : Nat) (hj : j < nm.length) : Nm.val (nm.take j) < 100000000000000000 := by
  have h1 := Nm.val_lt (nm.take j) (fun c hc => (List.all_eq_true.1 h) c (List.mem_of_mem_take hc))
  have h2 : (nm.take j).length ≤ 17 := by rw [List.length_take]; omega
  have h3 : 10 ^ (nm.take j).length ≤ 10 ^ 17 := Nat.pow_le_pow_right (by omega) h2
  omega

end Go.Proofs.YtjdkfkjkmjodlaaDoor.Pt
namespace Go.Proofs.YtjdkfkjkmjodlaaDoor
open Go.RowKit Pt

def Counting (nm : List UInt8) (w : World) (v i : Value) (wr : World) : Prop :=
  ∃ j : Nat, j ≤ nm.length ∧ i = .int .i64 j ∧ v = .int .i64 (Nm.val (nm.take j)) ∧ wr = w

set_option linter.unusedSimpArgs false in
set_option linter.unusedVariables false in
set_option maxRecDepth 100000 in
set_option maxHeartbeats 1000000 in
theorem refIndex_any (nm : List UInt8) (n : Nat) (e : Bool) (w : World) (hn : n ≤ 1000000000000) (hl : nm.length ≤ 1000000000000) :
    Calls Tryd.prog 11 #[.string ⟨nm.toArray⟩, .int .i64 n, .bool e] w fun r w' => r = .returned (.tuple #[.int .i64 (index nm n e).1, .bool (index nm n e).2]) ∧ w' = w := by
  by_cases h0 : e = true ∧ nm = [45]
  · obtain ⟨rfl, rfl⟩ := h0
    go_enter Tryd.func11, Tryd.ntmps11
    go_wp2_with fail
    go_ret2
    exact ⟨by simp [index], rfl⟩
  rcases nm with _ | ⟨c, r⟩
  · have HI := Lib.hid (show index [] n e = (0, false) by unfold index; rw [if_neg h0, if_pos (.inl rfl)])
    clear h0
    have q0 : (([] : List UInt8) == [45]) = false := rfl
    cases e
    all_goals
      go_enter Tryd.func11, Tryd.ntmps11
      go_wp2_with fail
      go_ret2
      exact ⟨by rw [HI.out]; rfl, rfl⟩
  · have hq : e = false ∨ (e = true ∧ ((c :: r) == [45]) = false) := by
      cases e with
      | false => exact .inl rfl
      | true => exact .inr ⟨rfl, by rw [beq_eq_false_iff_ne]; exact fun h => h0 ⟨rfl, h⟩⟩
    have HRUN := Lib.hid (show Calls Tryd.prog 23 #[.string ⟨(c :: r).toArray⟩, .int .i64 0] w fun e w' => e = .returned (.int .i64 (Nm.pre (c :: r)).length) ∧ w = w' from by
      simpa using run_any ⟨(c :: r).toArray⟩ 0 w (by rw [Lib.size_mk]; omega) (by omega) (by omega))
    have HSZ := Lib.hid (Lib.size_mk (c :: r))
    have hix : ∀ h, (⟨(c :: r).toArray⟩ : ByteArray)[0]'h = c := fun _ => rfl
    by_cases hd : (c :: r).all Nm.dig = true
    · have hpl := (pre_full (c :: r)).2 hd
      have HR2 := Lib.hid (show Calls Tryd.prog 23 #[.string ⟨(c :: r).toArray⟩, .int .i64 0] w fun e w' => e = .returned (.int .i64 ((r.length : Int) + 1)) ∧ w = w' from by
        have := HRUN.out
        rw [hpl] at this
        simpa using this)
      clear HRUN
      have HD := Lib.hid hd
      by_cases h1 : 1 ≤ r.length ∧ c = 48
      · have HI := Lib.hid (show index (c :: r) n e = (0, false) by
          unfold index; rw [if_neg h0, if_pos (.inr (.inr (.inl ⟨by simp only [List.length_cons]; omega, by rw [h1.2]; rfl⟩)))])
        have g1 : (1 : Int) < (r.length : Int) + 1 := by omega
        have g2 : (c.toNat : Int) = 48 := by rw [h1.2]; rfl
        clear h0 h1 hd hpl
        rcases hq with rfl | ⟨rfl, hq⟩
        all_goals
          go_enter Tryd.func11, Tryd.ntmps11
          go_wp2_with fail
          refine HR2.out.mono ?_
          rintro e' w' ⟨rfl, rfl⟩
          go_wp2_with fail
          go_ret2
          exact ⟨by rw [HI.out]; rfl, rfl⟩
      · have hh : (r.length : Int) + 1 ≤ 1 ∨ ((1 : Int) < (r.length : Int) + 1 ∧ ¬ (c.toNat : Int) = 48) := by
          by_cases h2 : 1 ≤ r.length
          · refine .inr ⟨by omega, fun h3 => h1 ⟨h2, UInt8.toNat_inj.1 ?_⟩⟩
            show c.toNat = 48
            omega
          · exact .inl (by omega)
        have h1' : ¬ (1 < (c :: r).length ∧ (c :: r).head? = some 48) := fun h2 => h1 ⟨by have := h2.1; simp only [List.length_cons] at this; omega, by simpa using h2.2⟩
        by_cases h18 : 18 < (c :: r).length
        · have HI := Lib.hid (show index (c :: r) n e = (0, false) by
            unfold index; rw [if_neg h0, if_pos (.inr (.inr (.inr h18)))])
          have g3 : (18 : Int) < (r.length : Int) + 1 := by simp only [List.length_cons] at h18; omega
          clear h0 h1 h1' hd hpl h18
          rcases hh with hh | ⟨g1, g2⟩
          · omega
          rcases hq with rfl | ⟨rfl, hq⟩
          all_goals
            go_enter Tryd.func11, Tryd.ntmps11
            go_wp2_with fail
            refine HR2.out.mono ?_
            rintro e' w' ⟨rfl, rfl⟩
            go_wp2_with fail
            go_ret2
            exact ⟨by rw [HI.out]; rfl, rfl⟩
        · have HI := Lib.hid (show index (c :: r) n e = if Nm.val (c :: r) < n ∨ (Nm.val (c :: r) = n ∧ e = true) then (Nm.val (c :: r), true) else (0, false) by
            unfold index
            rw [if_neg h0, if_neg]
            rintro (h | h | h | h)
            · cases h
            · exact h hd
            · exact h1' h
            · exact h18 h)
          have g3 : (r.length : Int) + 1 ≤ 18 := by simp only [List.length_cons] at h18; omega
          have HL18 := Lib.hid (show (c :: r).length ≤ 18 by omega)
          have HVT := Lib.hid (val_take (c :: r))
          have hv18 := val_small (c :: r) hd (by omega) (c :: r).length
          rw [List.take_length] at hv18
          have HV17 := Lib.hid (val_step (c :: r) hd (by omega))
          have HDG := Lib.hid (show ∀ j (h : j < (c :: r).length), 48 ≤ ((c :: r)[j]).toNat ∧ ((c :: r)[j]).toNat ≤ 57 from fun j h => by
            have := (List.all_eq_true.1 hd) _ (List.getElem_mem h)
            simpa [Nm.dig] using this)
          clear h0 h1 h1' hd hpl h18
          have hh2 : (r.length : Int) + 1 ≤ 1 ∨ ((1 : Int) < (r.length : Int) + 1 ∧ ¬ (c.toNat : Int) = 48 ∧ ((c.toNat : Int) == 48) = false) := by
            rcases hh with h | ⟨h, h2⟩
            · exact .inl h
            · exact .inr ⟨h, h2, by simpa using h2⟩
          clear hh
          rcases hh2 with g1 | ⟨g1, g2, g4⟩
          all_goals
            rcases hq with rfl | ⟨rfl, hq⟩
          all_goals
            go_enter Tryd.func11, Tryd.ntmps11
            go_wp2_with fail
            refine HR2.out.mono ?_
            rintro e' w' ⟨rfl, rfl⟩
            go_wp2_with fail
            go_loopw [8, 9] (Counting (c :: r) w) (fun _ i _ => (c :: r).length - (intOf i).toNat)
            case atStart => exact ⟨0, by omega, rfl, rfl, rfl⟩
            case round =>
              obtain ⟨j, hj, rfl, rfl, rfl⟩ := hrel
              by_cases hlt : j < (c :: r).length
              · have hv := HV17.out j hlt
                have hdg := HDG.out j hlt
                have hvt := HVT.out j hlt
                have hjx : ∀ h, (⟨(c :: r).toArray⟩ : ByteArray)[j]'h = (c :: r)[j] := fun _ => rfl
                have hlt' : (j : Int) < (r.length : Int) + 1 := by simp only [List.length_cons] at hlt; omega
                generalize hx : (c :: r)[j] = x at *
                generalize Nm.val ((c :: r).take j) = v at *
                have HVT2 := Lib.hid hvt
                clear hvt
                go_wp2_with fail
                go_roundw
                case rel => exact ⟨j + 1, by omega, by go_num, by rw [HVT2.out]; congr 1; omega, rfl⟩
                case measure => simp [intOf]; omega
              · obtain rfl : j = (c :: r).length := by omega
                rw [List.take_length]
                have HI2 := HI.out
                generalize Nm.val (c :: r) = v at *
                by_cases k1 : v < n
                · rw [if_pos (.inl k1)] at HI2
                  have HI3 := Lib.hid HI2
                  have k2 : (v : Int) < (n : Int) := by omega
                  clear HI2 HI HV17 HDG HVT
                  go_wp2_with fail
                  go_ret2
                  exact ⟨by rw [HI3.out]; rfl, rfl⟩
                · by_cases k2 : v = n
                  · subst k2
                    have k3 : ¬ (v : Int) < (v : Int) := by omega
                    have HI3 := Lib.hid HI2
                    clear HI2 HI HV17 HDG HVT
                    go_wp2_with fail
                    go_ret2
                    exact ⟨by rw [HI3.out]; simp, rfl⟩
                  · rw [if_neg (by rintro (h | ⟨h, _⟩) <;> omega)] at HI2
                    have HI3 := Lib.hid HI2
                    have k3 : ¬ (v : Int) < (n : Int) := by omega
                    have k4 : ¬ (v : Int) = (n : Int) := by omega
                    have k5 : ((v : Int) == (n : Int)) = false := by simpa using k4
                    clear HI2 HI HV17 HDG HVT
                    go_wp2_with fail
                    go_ret2
                    exact ⟨by rw [HI3.out]; rfl, rfl⟩
    · have hpl : ¬ (Nm.pre (c :: r)).length = (c :: r).length := fun h => hd ((pre_full _).1 h)
      have HI := Lib.hid (show index (c :: r) n e = (0, false) by unfold index; rw [if_neg h0, if_pos (.inr (.inl hd))])
      have hp1 : (((Nm.pre (c :: r)).length : Int) != (r.length : Int) + 1) = true := by rw [bne_iff_ne]; simp only [List.length_cons] at hpl; omega
      generalize (Nm.pre (c :: r)).length = q at *
      clear h0 hd hpl
      rcases hq with rfl | ⟨rfl, hq⟩
      all_goals
        go_enter Tryd.func11, Tryd.ntmps11
        go_wp2_with fail
        refine HRUN.out.mono ?_
        rintro e' w' ⟨rfl, rfl⟩
        go_wp2_with fail
        go_ret2
        exact ⟨by rw [HI.out]; rfl, rfl⟩

end Go.Proofs.YtjdkfkjkmjodlaaDoor

