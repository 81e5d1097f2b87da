/- The walks of the document's answers of layer 2, third part: low, char. -/
import Derived.Test.YtbcoakonjgakbaaDoorUa
namespace Go.Proofs.YtbcoakonjgakbaaDoor
open Go.RowKit

/-- What low tells. -/
def lowV (p : Nat × Bool) : Int := if p.2 = true then (p.1 : Int) else -1
theorem lowV_no {p : Nat × Bool} (h : p.2 = false) : lowV p = -1 := by unfold lowV; rw [h]; rfl

set_option linter.unusedSimpArgs false in
set_option maxRecDepth 100000 in
set_option maxHeartbeats 1000000 in
theorem low_any (s : ByteArray) (a : Nat) (w : World) (hs : s.size ≤ 4000000000000000000) (ha : a ≤ s.size) :
    Calls Tryd.prog 46 #[.string s, .int .i64 a] w fun e w' => e = .returned (.int .i64 (lowV (St.half (s.data.toList.drop a)))) ∧ w = w' := by
  have hlen : (s.data.toList.drop a).length = s.size - a := by rw [List.length_drop, ← Lib.size_eq]
  by_cases h6 : s.size < a + 6
  · have HE := Lib.hid (show lowV (St.half (s.data.toList.drop a)) = -1 by
      refine lowV_no ?_
      cases hb : (St.half (s.data.toList.drop a)).2 with
      | false => rfl
      | true => have := (St.half_true hb).2.1; omega)
    go_enter Tryd.func46, Tryd.ntmps46
    go_wp2
    go_ret
    refine ⟨?_, rfl⟩
    rw [HE.out]
    rfl
  · have la0 : a < s.size := by omega
    have la1 : a + 1 < s.size := by omega
    have hd0 := drop_at s a la0
    have hd1 := drop_at s (a + 1) la1
    have hix0 : ∀ h, s[a]'h = s.data.toList[a]'(len_at la0) := fun _ => rfl
    have hix1 : ∀ h, s[a + 1]'h = s.data.toList[a + 1]'(len_at la1) := fun _ => rfl
    have HHX := Lib.hid (fun w => hex_any s (a + 2) w hs (by omega))
    rw [hd1] at hd0
    rw [hd0]
    clear hd0 hd1 hlen
    generalize s.data.toList[a]'(len_at la0) = c at hix0 ⊢
    generalize s.data.toList[a + 1]'(len_at la1) = d at hix1 ⊢
    rw [show a + 1 + 1 = a + 2 from rfl]
    generalize s.data.toList.drop (a + 2) = t at HHX ⊢
    have HH := Lib.hid (St.half_two c d t)
    by_cases hc : c = 92
    · have b1 : ((c.toNat : Int) == 92) = true := byte_eqb 92 hc
      have b1' : ((c.toNat : Int) != 92) = false := by rw [bne, b1]; rfl
      by_cases hd : d = 117
      · have b2 : ((d.toNat : Int) == 117) = true := byte_eqb 117 hd
        have b2' : ((d.toNat : Int) != 117) = false := by rw [bne, b2]; rfl
        rw [if_pos ⟨hc, hd⟩] at HH
        clear hc hd
        have hlt := St.four_lt t
        have hle := (St.four_le t).1
        go_enter Tryd.func46, Tryd.ntmps46
        go_wp2_with fail
        refine (HHX.out _).mono ?_
        rintro e w' ⟨rfl, rfl⟩
        generalize St.four t = p at HH hlt hle ⊢
        obtain ⟨v, n⟩ := p
        simp only at hlt hle
        by_cases hn : n < 4
        · have HE := Lib.hid (show lowV (St.half (c :: d :: t)) = -1 by
            refine lowV_no ?_
            rw [HH.out]
            simp only [Bool.and_eq_false_iff, decide_eq_false_iff_not]
            left; omega)
          have e1 : hexP (a + 2) (v, n) = ((a + 2 + n : Nat) : Int) := by unfold hexP; rw [if_pos hn]
          have e2 : hexV (v, n) = 0 := by unfold hexV; rw [if_pos hn]
          rw [e1, e2]
          clear e1 e2
          go_wp2
          go_ret
          refine ⟨?_, rfl⟩
          rw [HE.out]
          rfl
        · obtain rfl : n = 4 := by omega
          have e1 : hexP (a + 2) (v, 4) = -1 := rfl
          have e2 : hexV (v, 4) = v := rfl
          rw [e1, e2]
          clear e1 e2 hn
          have hways : v < 56320 ∨ (56320 ≤ v ∧ 57344 ≤ v) ∨ (56320 ≤ v ∧ v < 57344) := by omega
          rcases hways with t1 | ⟨t1, t2⟩ | ⟨t1, t2⟩
          · have HE := Lib.hid (show lowV (St.half (c :: d :: t)) = -1 by
              refine lowV_no ?_
              rw [HH.out]
              simp [St.isLow]; omega)
            go_wp2
            go_ret
            refine ⟨?_, rfl⟩
            rw [HE.out]
            rfl
          · have HE := Lib.hid (show lowV (St.half (c :: d :: t)) = -1 by
              refine lowV_no ?_
              rw [HH.out]
              simp [St.isLow]; omega)
            go_wp2
            go_ret
            refine ⟨?_, rfl⟩
            rw [HE.out]
            rfl
          · have HE := Lib.hid (show lowV (St.half (c :: d :: t)) = v by
              unfold lowV
              rw [HH.out, if_pos (by simp [St.isLow]; omega)])
            go_wp2
            go_ret
            refine ⟨?_, rfl⟩
            rw [HE.out]
            rfl
      · have b2 : ((d.toNat : Int) == 117) = false := byte_neb 117 hd
        have b2' : ((d.toNat : Int) != 117) = true := by rw [bne, b2]; rfl
        rw [if_neg (fun h => hd h.2)] at HH
        clear hc hd
        go_enter Tryd.func46, Tryd.ntmps46
        go_wp2
        go_ret
        refine ⟨?_, rfl⟩
        rw [HH.out]
        rfl
    · have b1 : ((c.toNat : Int) == 92) = false := byte_neb 92 hc
      have b1' : ((c.toNat : Int) != 92) = true := by rw [bne, b1]; rfl
      rw [if_neg (fun h => hc h.1)] at HH
      clear hc
      go_enter Tryd.func46, Tryd.ntmps46
      go_wp2
      go_ret
      refine ⟨?_, rfl⟩
      rw [HH.out]
      rfl

end Go.Proofs.YtbcoakonjgakbaaDoor
