/- The walks of the document's answers of layer 2, first part: Utf8. -/
import Derived.Test.YtmdpjhcghdjmmaaMk
import Derived.Test.YtmdpjhcghdjmmaaMb
namespace Go.Proofs.Ytmdpjhcghdjmmaa
open Go.RowKit

/-- The bytes of a text from a place on. -/
theorem g_at (s : ByteArray) (a j : Nat) (h : a + j < s.size) : s[a + j].toNat = St.g (s.data.toList.drop a) j := by
  unfold St.g
  rw [List.getD_eq_getElem?_getD, List.getElem?_drop, List.getElem?_eq_getElem (by rw [← Lib.size_eq]; exact h)]
  rfl

set_option linter.unusedSimpArgs false in
set_option maxRecDepth 100000 in
set_option maxHeartbeats 1000000 in
theorem utf8_any (s : ByteArray) (a : Nat) (w : World) (hs : s.size ≤ 4000000000000000000) (ha : a < s.size) :
    Calls Try.prog 34 #[.string s, .int .i64 a] w fun e w' => e = .returned (.int .i64 (St.utf8 (s.data.toList.drop a))) ∧ w = w' := by
  have hlen : (s.data.toList.drop a).length = s.size - a := by rw [List.length_drop, ← Lib.size_eq]
  unfold St.utf8
  rw [hlen]
  have g0 := g_at s a 0 (by omega)
  have hg : ∀ j (h : a + j < s.size), s[a + j].toNat = St.g (s.data.toList.drop a) j := g_at s a
  have hlt : ∀ j, St.g (s.data.toList.drop a) j < 256 := St.g_lt _
  generalize hb : St.g (s.data.toList.drop a) = b at g0 hg hlt ⊢
  clear hb hlen
  have h0 : s[a].toNat = b 0 := g0
  have HG := Lib.hid hg
  have HL := Lib.hid hlt
  have H0 := Lib.hid h0
  clear hg hlt g0 h0
  generalize hc0 : s[a] = c0
  have hix : ∀ h, s[a]'h = c0 := fun _ => hc0
  rw [hc0] at H0
  clear hc0
  have h256 := c0.toNat_lt
  by_cases k1 : b 0 < 128
  · rw [St.width_low k1 (by omega)]
    have k1' : c0.toNat < 128 := by rw [H0.out]; exact k1
    go_enter Try.func34, Try.ntmps34
    go_wp2
    go_ret
    exact ⟨rfl, rfl⟩
  · by_cases k2 : b 0 < 192 ∨ 248 ≤ b 0
    · rw [St.width_none (by omega)]
      have k2' : (128 ≤ c0.toNat ∧ c0.toNat < 192) ∨ 248 ≤ c0.toNat := by rw [H0.out]; omega
      clear k1 k2
      rcases k2' with ⟨q1, q2⟩ | q
      all_goals
        go_enter Try.func34, Try.ntmps34
        go_wp2
        go_ret
        exact ⟨rfl, rfl⟩
    · have hcls : (192 ≤ b 0 ∧ b 0 < 224) ∨ (224 ≤ b 0 ∧ b 0 < 240) ∨ (240 ≤ b 0 ∧ b 0 < 248) := by omega
      clear k1 k2
      rcases hcls with ⟨q1, q2⟩ | ⟨q1, q2⟩ | ⟨q1, q2⟩
      · have p1 : 192 ≤ c0.toNat := by rw [H0.out]; exact q1
        have p2 : c0.toNat < 224 := by rw [H0.out]; exact q2
        have HC := Lib.hid (show St.Cls 2 128 192 (b 0) from .inl ⟨rfl, rfl, rfl, q1, q2⟩)
        have hv0 : St.AccBd 0 (b 0 - 192) := by unfold St.AccBd; omega
        have hz : (c0.toNat : Int) - 192 = ((b 0 - 192 : Nat) : Int) := by rw [H0.out]; omega
        have HZ := Lib.hid hz
        clear hz
        by_cases hsh : s.size < a + 2
        · rw [St.width_short HC.out (by omega)]
          go_enter Try.func34, Try.ntmps34
          go_wp2
          go_ret
          exact ⟨rfl, rfl⟩
        · have d128 : decide ((c0.toNat : Int) < 128) = false := by simp; omega
          have d224 : decide ((c0.toNat : Int) < 224) = true := by simp; omega
          have d240 : decide ((c0.toNat : Int) < 240) = true := by simp; omega
          have d248 : decide ((c0.toNat : Int) < 248) = true := by simp; omega
          have dsh : decide ((s.size : Int) < (a : Int) + 2) = false := by simp; omega
          go_enter Try.func34, Try.ntmps34
          go_wp2
          rw [HZ.out]
          go_loop [8, 9] (fun v t => ∃ i : Nat, 1 ≤ i ∧ i ≤ 2 ∧ t = .int .i64 (i : Int) ∧ v = .int .i64 (St.acc (b 0 - 192) b (i - 1)) ∧ St.Conts b (i - 1) ∧ St.AccBd (i - 1) (St.acc (b 0 - 192) b (i - 1))) (fun _ t => 4 - (intOf t).toNat)
          case atStart => exact ⟨1, by omega, by omega, rfl, rfl, fun m h1 h2 => by omega, hv0⟩
          case round =>
            obtain ⟨i, hi, hin, rfl, rfl, hco, hbd⟩ := hrel
            have hv1 : St.acc (b 0 - 192) b (i - 1) < 8388608 := hbd.2.2.2
            by_cases hlt : i < 2
            · have HACC := Lib.hid (show St.acc (b 0 - 192) b i = 64 * St.acc (b 0 - 192) b (i - 1) + b i - 128 by
                obtain ⟨j, rfl⟩ : ∃ j, i = j + 1 := ⟨i - 1, by omega⟩
                rfl)
              have hb1 := HL.out i
              have hai : a + i < s.size := by omega
              have HGJ := Lib.hid (HG.out i hai)
              generalize hcj : s[a + i] = cj at HGJ
              have hixj : ∀ h, s[a + i]'h = cj := fun _ => hcj
              have h256j := cj.toNat_lt
              clear hcj
              have hvj := Lib.hid (fun h => hbd.next (by omega) (d := b i) h)
              have HCO := Lib.hid hco
              clear hco
              generalize St.acc (b 0 - 192) b (i - 1) = v at HACC hv1 hbd hvj ⊢
              by_cases hcont : 128 ≤ b i ∧ b i < 192
              · obtain ⟨d1, d2⟩ := hcont
                have d1' : 128 ≤ cj.toNat := by rw [HGJ.out]; exact d1
                have d2' : cj.toNat < 192 := by rw [HGJ.out]; exact d2
                have HV := Lib.hid (show 64 * (v : Int) + (cj.toNat : Int) - 128 = ((64 * v + b i - 128 : Nat) : Int) by rw [HGJ.out]; omega)
                go_wp2
                go_round
                case rel => exact ⟨i + 1, by omega, by omega, by go_num, (by rw [Nat.add_sub_cancel, HACC.out, ← HV.out]), (by
                  have := St.Conts.next HCO.out (by rw [Nat.sub_add_cancel hi]; exact ⟨d1, d2⟩)
                  rw [Nat.sub_add_cancel hi] at this
                  rw [Nat.add_sub_cancel]; exact this), (by
                  have := hvj.out d2
                  rw [Nat.sub_add_cancel hi] at this
                  rw [Nat.add_sub_cancel, HACC.out]; exact this)⟩
                case measure => simp [intOf]; omega
              · have HW := Lib.hid (St.width_cont (len := s.size - a) (j := i) HC.out (by omega) (by omega) (by omega))
                have hcc : cj.toNat < 128 ∨ 192 ≤ cj.toNat := by rw [HGJ.out]; omega
                clear hcont
                rcases hcc with hcc | hcc
                all_goals
                  go_wp2
                  go_ret
                  refine ⟨?_, rfl⟩
                  rw [HW.out]
                  rfl
            · obtain rfl : i = 2 := by omega
              have HE := Lib.hid (St.width_end (len := s.size - a) HC.out (by omega) hco)
              have HCO := Lib.hid hco
              clear hco
              generalize St.acc (b 0 - 192) b (2 - 1) = v at HE hv1 hbd ⊢
              have hways : v < 128 ∨ (128 ≤ v ∧ 1114111 < v) ∨ (128 ≤ v ∧ v ≤ 1114111 ∧ 55296 ≤ v ∧ v < 57344) ∨ (128 ≤ v ∧ v ≤ 1114111 ∧ v < 55296) ∨ (128 ≤ v ∧ v ≤ 1114111 ∧ 57344 ≤ v) := by omega
              rcases hways with t | ⟨t1, t2⟩ | ⟨t1, t2, t3, t4⟩ | ⟨t1, t2, t3⟩ | ⟨t1, t2, t3⟩
              · go_wp2
                go_ret
                refine ⟨?_, rfl⟩
                rw [HE.out, if_pos (.inl t)]
                rfl
              · go_wp2
                go_ret
                refine ⟨?_, rfl⟩
                rw [HE.out, if_pos (.inr (.inl t2))]
                rfl
              · go_wp2
                go_ret
                refine ⟨?_, rfl⟩
                rw [HE.out, if_pos (.inr (.inr ⟨t3, t4⟩))]
                rfl
              · go_wp2
                go_ret
                refine ⟨?_, rfl⟩
                rw [HE.out, if_neg (by omega)]
                rfl
              · go_wp2
                go_ret
                refine ⟨?_, rfl⟩
                rw [HE.out, if_neg (by omega)]
                rfl
      · have p1 : 224 ≤ c0.toNat := by rw [H0.out]; exact q1
        have p2 : c0.toNat < 240 := by rw [H0.out]; exact q2
        have HC := Lib.hid (show St.Cls 3 2048 224 (b 0) from .inr <| .inl ⟨rfl, rfl, rfl, q1, q2⟩)
        have hv0 : St.AccBd 0 (b 0 - 224) := by unfold St.AccBd; omega
        have hz : (c0.toNat : Int) - 224 = ((b 0 - 224 : Nat) : Int) := by rw [H0.out]; omega
        have HZ := Lib.hid hz
        clear hz
        by_cases hsh : s.size < a + 3
        · rw [St.width_short HC.out (by omega)]
          go_enter Try.func34, Try.ntmps34
          go_wp2
          go_ret
          exact ⟨rfl, rfl⟩
        · have d128 : decide ((c0.toNat : Int) < 128) = false := by simp; omega
          have d224 : decide ((c0.toNat : Int) < 224) = false := by simp; omega
          have d240 : decide ((c0.toNat : Int) < 240) = true := by simp; omega
          have d248 : decide ((c0.toNat : Int) < 248) = true := by simp; omega
          have dsh : decide ((s.size : Int) < (a : Int) + 3) = false := by simp; omega
          go_enter Try.func34, Try.ntmps34
          go_wp2
          rw [HZ.out]
          go_loop [8, 9] (fun v t => ∃ i : Nat, 1 ≤ i ∧ i ≤ 3 ∧ t = .int .i64 (i : Int) ∧ v = .int .i64 (St.acc (b 0 - 224) b (i - 1)) ∧ St.Conts b (i - 1) ∧ St.AccBd (i - 1) (St.acc (b 0 - 224) b (i - 1))) (fun _ t => 4 - (intOf t).toNat)
          case atStart => exact ⟨1, by omega, by omega, rfl, rfl, fun m h1 h2 => by omega, hv0⟩
          case round =>
            obtain ⟨i, hi, hin, rfl, rfl, hco, hbd⟩ := hrel
            have hv1 : St.acc (b 0 - 224) b (i - 1) < 8388608 := hbd.2.2.2
            by_cases hlt : i < 3
            · have HACC := Lib.hid (show St.acc (b 0 - 224) b i = 64 * St.acc (b 0 - 224) b (i - 1) + b i - 128 by
                obtain ⟨j, rfl⟩ : ∃ j, i = j + 1 := ⟨i - 1, by omega⟩
                rfl)
              have hb1 := HL.out i
              have hai : a + i < s.size := by omega
              have HGJ := Lib.hid (HG.out i hai)
              generalize hcj : s[a + i] = cj at HGJ
              have hixj : ∀ h, s[a + i]'h = cj := fun _ => hcj
              have h256j := cj.toNat_lt
              clear hcj
              have hvj := Lib.hid (fun h => hbd.next (by omega) (d := b i) h)
              have HCO := Lib.hid hco
              clear hco
              generalize St.acc (b 0 - 224) b (i - 1) = v at HACC hv1 hbd hvj ⊢
              by_cases hcont : 128 ≤ b i ∧ b i < 192
              · obtain ⟨d1, d2⟩ := hcont
                have d1' : 128 ≤ cj.toNat := by rw [HGJ.out]; exact d1
                have d2' : cj.toNat < 192 := by rw [HGJ.out]; exact d2
                have HV := Lib.hid (show 64 * (v : Int) + (cj.toNat : Int) - 128 = ((64 * v + b i - 128 : Nat) : Int) by rw [HGJ.out]; omega)
                go_wp2
                go_round
                case rel => exact ⟨i + 1, by omega, by omega, by go_num, (by rw [Nat.add_sub_cancel, HACC.out, ← HV.out]), (by
                  have := St.Conts.next HCO.out (by rw [Nat.sub_add_cancel hi]; exact ⟨d1, d2⟩)
                  rw [Nat.sub_add_cancel hi] at this
                  rw [Nat.add_sub_cancel]; exact this), (by
                  have := hvj.out d2
                  rw [Nat.sub_add_cancel hi] at this
                  rw [Nat.add_sub_cancel, HACC.out]; exact this)⟩
                case measure => simp [intOf]; omega
              · have HW := Lib.hid (St.width_cont (len := s.size - a) (j := i) HC.out (by omega) (by omega) (by omega))
                have hcc : cj.toNat < 128 ∨ 192 ≤ cj.toNat := by rw [HGJ.out]; omega
                clear hcont
                rcases hcc with hcc | hcc
                all_goals
                  go_wp2
                  go_ret
                  refine ⟨?_, rfl⟩
                  rw [HW.out]
                  rfl
            · obtain rfl : i = 3 := by omega
              have HE := Lib.hid (St.width_end (len := s.size - a) HC.out (by omega) hco)
              have HCO := Lib.hid hco
              clear hco
              generalize St.acc (b 0 - 224) b (3 - 1) = v at HE hv1 hbd ⊢
              have hways : v < 2048 ∨ (2048 ≤ v ∧ 1114111 < v) ∨ (2048 ≤ v ∧ v ≤ 1114111 ∧ 55296 ≤ v ∧ v < 57344) ∨ (2048 ≤ v ∧ v ≤ 1114111 ∧ v < 55296) ∨ (2048 ≤ v ∧ v ≤ 1114111 ∧ 57344 ≤ v) := by omega
              rcases hways with t | ⟨t1, t2⟩ | ⟨t1, t2, t3, t4⟩ | ⟨t1, t2, t3⟩ | ⟨t1, t2, t3⟩
              · go_wp2
                go_ret
                refine ⟨?_, rfl⟩
                rw [HE.out, if_pos (.inl t)]
                rfl
              · go_wp2
                go_ret
                refine ⟨?_, rfl⟩
                rw [HE.out, if_pos (.inr (.inl t2))]
                rfl
              · go_wp2
                go_ret
                refine ⟨?_, rfl⟩
                rw [HE.out, if_pos (.inr (.inr ⟨t3, t4⟩))]
                rfl
              · go_wp2
                go_ret
                refine ⟨?_, rfl⟩
                rw [HE.out, if_neg (by omega)]
                rfl
              · go_wp2
                go_ret
                refine ⟨?_, rfl⟩
                rw [HE.out, if_neg (by omega)]
                rfl
      · have p1 : 240 ≤ c0.toNat := by rw [H0.out]; exact q1
        have p2 : c0.toNat < 248 := by rw [H0.out]; exact q2
        have HC := Lib.hid (show St.Cls 4 65536 240 (b 0) from .inr <| .inr ⟨rfl, rfl, rfl, q1, q2⟩)
        have hv0 : St.AccBd 0 (b 0 - 240) := by unfold St.AccBd; omega
        have hz : (c0.toNat : Int) - 240 = ((b 0 - 240 : Nat) : Int) := by rw [H0.out]; omega
        have HZ := Lib.hid hz
        clear hz
        by_cases hsh : s.size < a + 4
        · rw [St.width_short HC.out (by omega)]
          go_enter Try.func34, Try.ntmps34
          go_wp2
          go_ret
          exact ⟨rfl, rfl⟩
        · have d128 : decide ((c0.toNat : Int) < 128) = false := by simp; omega
          have d224 : decide ((c0.toNat : Int) < 224) = false := by simp; omega
          have d240 : decide ((c0.toNat : Int) < 240) = false := by simp; omega
          have d248 : decide ((c0.toNat : Int) < 248) = true := by simp; omega
          have dsh : decide ((s.size : Int) < (a : Int) + 4) = false := by simp; omega
          go_enter Try.func34, Try.ntmps34
          go_wp2
          rw [HZ.out]
          go_loop [8, 9] (fun v t => ∃ i : Nat, 1 ≤ i ∧ i ≤ 4 ∧ t = .int .i64 (i : Int) ∧ v = .int .i64 (St.acc (b 0 - 240) b (i - 1)) ∧ St.Conts b (i - 1) ∧ St.AccBd (i - 1) (St.acc (b 0 - 240) b (i - 1))) (fun _ t => 4 - (intOf t).toNat)
          case atStart => exact ⟨1, by omega, by omega, rfl, rfl, fun m h1 h2 => by omega, hv0⟩
          case round =>
            obtain ⟨i, hi, hin, rfl, rfl, hco, hbd⟩ := hrel
            have hv1 : St.acc (b 0 - 240) b (i - 1) < 8388608 := hbd.2.2.2
            by_cases hlt : i < 4
            · have HACC := Lib.hid (show St.acc (b 0 - 240) b i = 64 * St.acc (b 0 - 240) b (i - 1) + b i - 128 by
                obtain ⟨j, rfl⟩ : ∃ j, i = j + 1 := ⟨i - 1, by omega⟩
                rfl)
              have hb1 := HL.out i
              have hai : a + i < s.size := by omega
              have HGJ := Lib.hid (HG.out i hai)
              generalize hcj : s[a + i] = cj at HGJ
              have hixj : ∀ h, s[a + i]'h = cj := fun _ => hcj
              have h256j := cj.toNat_lt
              clear hcj
              have hvj := Lib.hid (fun h => hbd.next (by omega) (d := b i) h)
              have HCO := Lib.hid hco
              clear hco
              generalize St.acc (b 0 - 240) b (i - 1) = v at HACC hv1 hbd hvj ⊢
              by_cases hcont : 128 ≤ b i ∧ b i < 192
              · obtain ⟨d1, d2⟩ := hcont
                have d1' : 128 ≤ cj.toNat := by rw [HGJ.out]; exact d1
                have d2' : cj.toNat < 192 := by rw [HGJ.out]; exact d2
                have HV := Lib.hid (show 64 * (v : Int) + (cj.toNat : Int) - 128 = ((64 * v + b i - 128 : Nat) : Int) by rw [HGJ.out]; omega)
                go_wp2
                go_round
                case rel => exact ⟨i + 1, by omega, by omega, by go_num, (by rw [Nat.add_sub_cancel, HACC.out, ← HV.out]), (by
                  have := St.Conts.next HCO.out (by rw [Nat.sub_add_cancel hi]; exact ⟨d1, d2⟩)
                  rw [Nat.sub_add_cancel hi] at this
                  rw [Nat.add_sub_cancel]; exact this), (by
                  have := hvj.out d2
                  rw [Nat.sub_add_cancel hi] at this
                  rw [Nat.add_sub_cancel, HACC.out]; exact this)⟩
                case measure => simp [intOf]; omega
              · have HW := Lib.hid (St.width_cont (len := s.size - a) (j := i) HC.out (by omega) (by omega) (by omega))
                have hcc : cj.toNat < 128 ∨ 192 ≤ cj.toNat := by rw [HGJ.out]; omega
                clear hcont
                rcases hcc with hcc | hcc
                all_goals
                  go_wp2
                  go_ret
                  refine ⟨?_, rfl⟩
                  rw [HW.out]
                  rfl
            · obtain rfl : i = 4 := by omega
              have HE := Lib.hid (St.width_end (len := s.size - a) HC.out (by omega) hco)
              have HCO := Lib.hid hco
              clear hco
              generalize St.acc (b 0 - 240) b (4 - 1) = v at HE hv1 hbd ⊢
              have hways : v < 65536 ∨ (65536 ≤ v ∧ 1114111 < v) ∨ (65536 ≤ v ∧ v ≤ 1114111 ∧ 55296 ≤ v ∧ v < 57344) ∨ (65536 ≤ v ∧ v ≤ 1114111 ∧ v < 55296) ∨ (65536 ≤ v ∧ v ≤ 1114111 ∧ 57344 ≤ v) := by omega
              rcases hways with t | ⟨t1, t2⟩ | ⟨t1, t2, t3, t4⟩ | ⟨t1, t2, t3⟩ | ⟨t1, t2, t3⟩
              · go_wp2
                go_ret
                refine ⟨?_, rfl⟩
                rw [HE.out, if_pos (.inl t)]
                rfl
              · go_wp2
                go_ret
                refine ⟨?_, rfl⟩
                rw [HE.out, if_pos (.inr (.inl t2))]
                rfl
              · exfalso; omega
              · exfalso; omega
              · go_wp2
                go_ret
                refine ⟨?_, rfl⟩
                rw [HE.out, if_neg (by omega)]
                rfl

end Go.Proofs.Ytmdpjhcghdjmmaa

