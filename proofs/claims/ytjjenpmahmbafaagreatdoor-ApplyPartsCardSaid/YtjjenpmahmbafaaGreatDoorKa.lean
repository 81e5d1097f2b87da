/- Ka: Ka Kb Kc, in one text. -/
import Derived.Test.YtjjenpmahmbafaaGreatDoorPp
import Derived.Lib.ReplaceLaws
import Derived.Lib.SplitLaws
import Derived.Test.YtjjenpmahmbafaaGreatDoorPq
import Derived.Test.YtjjenpmahmbafaaGreatDoorSf
import Derived.Lib.ConvBytes
import Derived.Test.YtjjenpmahmbafaaGreatDoorShelf
import Derived.Lib.Hide
import Derived.Test.YtjjenpmahmbafaaGreatDoorMk
namespace Go.Proofs.YtjjenpmahmbafaaGreatDoor.Pt
open Go.Lib (replaceAll replace replaceNum replaceK replaceK_hit count_miss count_hit count_one splitK index_ge)
def half : List UInt8 → List UInt8
  | [] => []
  | c :: n => (if c = 126 then [126, 48] else [c]) ++ half n
def placeOf (nm : List UInt8) : Nat × Bool := if nm = [] ∨ 18 < nm.length ∨ (nm.head? = some 48 ∧ nm ≠ [48]) ∨ ¬ (nm.all Nm.dig = true) then (0, false) else (Nm.val nm, true)
theorem lead_iff (nm : List UInt8) : (nm.head? = some 48 ∧ nm ≠ [48]) ↔ (1 < nm.length ∧ nm.head? = some 48) := by
  rcases nm with _ | ⟨c, _ | ⟨d, r⟩⟩
  · simp
  · simp
  · simp
theorem index_place (nm : List UInt8) (n : Nat) (e : Bool) (h0 : ¬ (e = true ∧ nm = [45])) :
    index nm n e = if (placeOf nm).2 = true ∧ ((placeOf nm).1 < n ∨ ((placeOf nm).1 = n ∧ e = true)) then ((placeOf nm).1, true) else (0, false) := by
  unfold index placeOf
  rw [if_neg h0]
  by_cases h1 : nm = [] ∨ ¬ (nm.all Nm.dig = true) ∨ (1 < nm.length ∧ nm.head? = some 48) ∨ 18 < nm.length
  · rw [if_pos h1]
    have h2 : nm = [] ∨ 18 < nm.length ∨ (nm.head? = some 48 ∧ nm ≠ [48]) ∨ ¬ (nm.all Nm.dig = true) := by
      rcases h1 with h | h | h | h
      · exact .inl h
      · exact .inr (.inr (.inr h))
      · exact .inr (.inr (.inl ((lead_iff nm).2 h)))
      · exact .inr (.inl h)
    rw [if_pos h2, if_neg (by simp)]
  · rw [if_neg h1]
    have h2 : ¬ (nm = [] ∨ 18 < nm.length ∨ (nm.head? = some 48 ∧ nm ≠ [48]) ∨ ¬ (nm.all Nm.dig = true)) := by
      rintro (h | h | h | h)
      · exact h1 (.inl h)
      · exact h1 (.inr (.inr (.inr h)))
      · exact h1 (.inr (.inr (.inl ((lead_iff nm).1 h))))
      · exact h1 (.inr (.inl h))
    rw [if_neg h2]
    simp

end Go.Proofs.YtjjenpmahmbafaaGreatDoor.Pt

namespace Go.Proofs.YtjjenpmahmbafaaGreatDoor
open Go.RowKit Pt

theorem bytes_of (s : List UInt8) (w : World) : ∃ (cap : Nat) (w2 : World), (convert 9 91 (.string ⟨s.toArray⟩)).run Tryz.prog w = .ok (.slice (some ⟨w.heap.size, 0, none⟩) s.length cap) w2 ∧ Below w.heap.size w w2 ∧
    ∀ j (hj : j < s.length), w2.cell? ⟨w.heap.size, j, none⟩ = some (.int .u8 s[j].toNat) := by
  have h := Lib.run_convert_string_bytes w 9 91 5 ⟨s.toArray⟩ Tryz.underlying9 Tryz.underlying91 Tryz.underlying5
  rw [Lib.size_mk] at h
  refine ⟨_, _, h, ⟨rfl, rfl, rfl, by rw [Lib.bytesWorld_size]; omega, fun j hj => Lib.bytesWorld_at_old w _ _ j hj⟩, fun j hj => ?_⟩
  rw [Lib.bytesWorld_cell w _ _ j (by rw [Lib.size_mk]; exact hj)]
  have e : (⟨s.toArray⟩ : ByteArray).data.toList.getD j 0 = s[j] := by
    show s.getD j 0 = s[j]
    simp [List.getD, hj]
  rw [e]

def Placing (nm : List UInt8) (w : World) (k i : Value) (wr : World) : Prop :=
  ∃ j : Nat, j ≤ nm.length ∧ i = .int .i64 j ∧ k = .int .i64 (Nm.val (nm.take j)) ∧ (nm.take j).all Nm.dig = true ∧ wr = w

theorem all_take (nm : List UInt8) (j : Nat) (h : j < nm.length) : (nm.take (j + 1)).all Nm.dig = ((nm.take j).all Nm.dig && Nm.dig nm[j]) := by
  rw [List.take_succ_eq_append_getElem h, List.all_append]; simp
theorem val_snoc9 (nm : List UInt8) (h : nm.all Nm.dig = true) (hl : nm.length ≤ 17) : Nm.val nm < 100000000000000000 := by
  have h1 := Nm.val_lt nm (fun c hc => (List.all_eq_true.1 h) c hc)
  have h3 : 10 ^ nm.length ≤ 10 ^ 17 := Nat.pow_le_pow_right (by omega) hl
  omega

def PlacePost (nm : List UInt8) (w : World) (e : Ending) (w' : World) : Prop := e = .returned (.tuple #[.int .i64 (placeOf nm).1, .bool (placeOf nm).2]) ∧ Below w.heap.size w w'

set_option linter.unusedSimpArgs false in
set_option linter.unusedVariables false in
set_option maxRecDepth 100000 in
set_option maxHeartbeats 1000000 in
theorem place_any (nm : List UInt8) (w : World) (hl : nm.length ≤ 1000000000000) :
    Calls Tryz.prog 96 #[.string ⟨nm.toArray⟩] w (PlacePost nm w) := by
  rcases nm with _ | ⟨c, r⟩
  · go_enter Tryz.func96, Tryz.ntmps96
    go_wp2_with fail
    go_ret2
    exact ⟨rfl, Below.refl _ _⟩
  · have HSZ := Lib.hid (Lib.size_mk (c :: r))
    have hix : ∀ h, (⟨(c :: r).toArray⟩ : ByteArray)[0]'h = c := fun _ => rfl
    have q0 : ((c :: r) == ([] : List UInt8)) = false := rfl
    by_cases h18 : 18 < (c :: r).length
    · have HI := Lib.hid (show placeOf (c :: r) = (0, false) from if_pos (.inr (.inl h18)))
      have g3 : (18 : Int) < (r.length : Int) + 1 := by simp only [List.length_cons] at h18; omega
      clear h18
      go_enter Tryz.func96, Tryz.ntmps96
      go_wp2_with fail
      go_ret2
      exact ⟨by rw [HI.out]; rfl, Below.refl _ _⟩
    · have h18' : (r.length : Int) + 1 ≤ 18 := by simp only [List.length_cons] at h18; omega
      by_cases hld : c = 48 ∧ r ≠ []
      · have HI := Lib.hid (show placeOf (c :: r) = (0, false) from if_pos (.inr (.inr (.inl ⟨by rw [hld.1]; rfl, fun h => hld.2 (by injection h)⟩))))
        have b1 : ((c.toNat : Int) == 48) = true := by rw [hld.1]; rfl
        have b2 : ((c :: r) == [48]) = false := by rw [beq_eq_false_iff_ne]; exact fun h => hld.2 (by injection h)
        have b3 : ((c :: r) != [48]) = true := by rw [bne_iff_ne]; exact fun h => hld.2 (by injection h)
        clear hld h18
        go_enter Tryz.func96, Tryz.ntmps96
        go_wp2_with fail
        go_ret2
        exact ⟨by rw [HI.out]; rfl, Below.refl _ _⟩
      · have hway : ((c.toNat : Int) == 48) = false ∨ (((c.toNat : Int) == 48) = true ∧ ((c :: r) == [48]) = true ∧ ((c :: r) != [48]) = false) := by
          by_cases h : c = 48
          · have hr : r = [] := by
              cases r with
              | nil => rfl
              | cons d r => exact absurd ⟨h, by simp⟩ hld
            subst h hr
            exact .inr ⟨rfl, rfl, rfl⟩
          · exact .inl (byte_neb 48 h)
        have HLD := Lib.hid hld
        clear hld
        generalize hs : c :: r = s at *
        have hsl : (s.length : Int) ≤ 18 := by rw [← hs]; simp only [List.length_cons] at h18 ⊢; omega
        have hs0 : 0 < s.length := by rw [← hs]; simp
        have HS := Lib.hid hs
        obtain ⟨cap, w2, hconv, hb2, hcells⟩ := bytes_of s w
        have HB2 := Lib.hid hb2
        have HC := Lib.hid hcells
        have HNE := Lib.hid (show ¬ (s = [] ∨ 18 < s.length ∨ (s.head? = some 48 ∧ s ≠ [48])) by
          rintro (h | h | ⟨h, h2⟩)
          · rw [h] at hs0; simp at hs0
          · omega
          · rw [← hs] at h h2
            simp only [List.head?_cons, Option.some.injEq] at h
            exact HLD.out ⟨h, fun e => h2 (by rw [h, e])⟩)
        clear hb2 hcells
        rcases hway with b1 | ⟨b1, b2, b3⟩
        all_goals
          clear hs h18
          go_enter Tryz.func96, Tryz.ntmps96
          go_wp2_with fail
          go_loopw [4, 26] (Placing s w2) (fun _ i _ => s.length - (intOf i).toNat)
          case atStart => exact ⟨0, by omega, rfl, rfl, rfl, rfl⟩
          case round =>
            obtain ⟨j, hj, rfl, rfl, hall, rfl⟩ := hrel
            have HALL := Lib.hid hall
            clear hall
            by_cases hlt : j < s.length
            · have hcell := HC.out j hlt
              have HAT := Lib.hid (all_take s j hlt)
              have HVT := Lib.hid (val_take s j hlt)
              have hv := val_snoc9 (s.take j) HALL.out (by rw [List.length_take]; omega)
              generalize hx : s[j] = x at *
              generalize Nm.val (s.take j) = v at *
              by_cases hdx : Nm.dig x = true
              · have hdg : 48 ≤ x.toNat ∧ x.toNat ≤ 57 := by simpa [Nm.dig] using hdx
                have HDX := Lib.hid hdx
                clear hdx
                have d1 : ¬ (x.toNat : Int) < 48 := by omega
                have d2 : ¬ (57 : Int) < (x.toNat : Int) := by omega
                go_wp2_with fail
                go_roundw
                case rel => exact ⟨j + 1, by omega, by go_num, by rw [HVT.out]; congr 1; omega, by rw [HAT.out, HALL.out, HDX.out]; rfl, rfl⟩
                case measure => simp [intOf]; omega
              · have HI := Lib.hid (show placeOf s = (0, false) from if_pos (.inr (.inr (.inr (fun h => hdx ((List.all_eq_true.1 h) x (by rw [← hx]; exact List.getElem_mem hlt)))))))
                have hdg : x.toNat < 48 ∨ 57 < x.toNat := by
                  have : ¬ (48 ≤ x.toNat ∧ x.toNat ≤ 57) := by simpa [Nm.dig] using hdx
                  omega
                clear hdx
                rcases hdg with hdg | hdg
                · have d1 : (x.toNat : Int) < 48 := by omega
                  go_wp2_with fail
                  go_ret2
                  exact ⟨by rw [HI.out]; rfl, HB2.out⟩
                · have d1 : ¬ (x.toNat : Int) < 48 := by omega
                  have d2 : (57 : Int) < (x.toNat : Int) := by omega
                  go_wp2_with fail
                  go_ret2
                  exact ⟨by rw [HI.out]; rfl, HB2.out⟩
            · obtain rfl : j = s.length := by omega
              rw [List.take_length]
              have HI := Lib.hid (show placeOf s = (Nm.val s, true) from if_neg (by
                rintro (h | h | h | h)
                · exact HNE.out (.inl h)
                · exact HNE.out (.inr (.inl h))
                · exact HNE.out (.inr (.inr h))
                · have := HALL.out; rw [List.take_length] at this; exact h this))
              go_wp2_with fail
              go_ret2
              exact ⟨by rw [HI.out]; rfl, HB2.out⟩

set_option linter.unusedSimpArgs false in
set_option linter.unusedVariables false in
set_option maxRecDepth 100000 in
set_option maxHeartbeats 1000000 in
theorem index_any (nm : List UInt8) (n : Nat) (e : Bool) (w : World) (hn : n ≤ 1000000000000) (hl : nm.length ≤ 1000000000000) :
    Calls Tryz.prog 78 #[.string ⟨nm.toArray⟩, .int .i64 n, .bool e] w fun r w' => r = .returned (.tuple #[.int .i64 (index nm n e).1, .bool (index nm n e).2]) ∧ Below w.heap.size w w' := by
  by_cases h0 : e = true ∧ nm = [45]
  · obtain ⟨rfl, rfl⟩ := h0
    go_enter Tryz.func78, Tryz.ntmps78
    go_wp2_with fail
    go_ret2
    exact ⟨by simp [index], Below.refl _ _⟩
  · have hq : e = false ∨ (e = true ∧ (nm == [45]) = false) := by
      cases e with
      | false => exact .inl rfl
      | true => exact .inr ⟨rfl, by rw [beq_eq_false_iff_ne]; exact fun h => h0 ⟨rfl, h⟩⟩
    have HI := Lib.hid (index_place nm n e h0)
    have HP := Lib.hid (place_any nm w hl)
    clear h0
    unfold PlacePost at HP
    obtain ⟨k, ok, hk⟩ : ∃ k ok, placeOf nm = (k, ok) := ⟨_, _, rfl⟩
    rw [hk] at HI HP
    simp only at HI HP
    have HPL := Lib.hid hk
    clear hk
    have fin : ∀ q : Nat × Bool, index nm n e = q → ∀ w', Below w.heap.size w w' → Ending.returned (.tuple #[.int .i64 q.1, .bool q.2]) = .returned (.tuple #[.int .i64 (index nm n e).1, .bool (index nm n e).2]) ∧ Below w.heap.size w w' := fun q h w' hb => by rw [h]; exact ⟨rfl, hb⟩
    have FIN := Lib.hid fin
    clear fin
    have hways : (ok = false ∧ index nm n e = (0, false)) ∨ (ok = true ∧ (n : Int) < (k : Int) ∧ index nm n e = (0, false)) ∨ (ok = true ∧ k = n ∧ e = false ∧ index nm n e = (0, false)) ∨ (ok = true ∧ k = n ∧ e = true ∧ index nm n e = (k, true)) ∨ (ok = true ∧ (k : Int) < (n : Int) ∧ index nm n e = (k, true)) := by
      have h := HI.out
      cases ok with
      | false => exact .inl ⟨rfl, h⟩
      | true =>
        rcases Nat.lt_trichotomy k n with h1 | h1 | h1
        · exact .inr (.inr (.inr (.inr ⟨rfl, by omega, by rw [h, if_pos ⟨rfl, .inl h1⟩]⟩)))
        · cases e with
          | false => exact .inr (.inr (.inl ⟨rfl, h1, rfl, by rw [h, if_neg (by rintro ⟨_, h | ⟨_, h⟩⟩ <;> first | omega | cases h)]⟩))
          | true => exact .inr (.inr (.inr (.inl ⟨rfl, h1, rfl, by rw [h, if_pos ⟨rfl, .inr ⟨h1, rfl⟩⟩]⟩)))
        · exact .inr (.inl ⟨rfl, by omega, by rw [h, if_neg (by rintro ⟨_, h | ⟨h, _⟩⟩ <;> omega)]⟩)
    clear HI
    rcases hways with ⟨rfl, hres⟩ | ⟨rfl, hkn, hres⟩ | ⟨rfl, rfl, rfl, hres⟩ | ⟨rfl, rfl, rfl, hres⟩ | ⟨rfl, hkn, hres⟩
    · have HR := Lib.hid hres
      clear hres
      rcases hq with rfl | ⟨rfl, hq⟩
      all_goals
        go_enter Tryz.func78, Tryz.ntmps78
        go_wp2_with fail
        refine HP.out.mono ?_
        rintro e' w2 ⟨rfl, hb2⟩
        go_wp2_with fail
        go_ret2
        exact FIN.out _ HR.out _ hb2
    · have HR := Lib.hid hres
      clear hres
      rcases hq with rfl | ⟨rfl, hq⟩
      all_goals
        go_enter Tryz.func78, Tryz.ntmps78
        go_wp2_with fail
        refine HP.out.mono ?_
        rintro e' w2 ⟨rfl, hb2⟩
        go_wp2_with fail
        go_ret2
        exact FIN.out _ HR.out _ hb2
    · have HR := Lib.hid hres
      have h1 : ((k : Int) == (k : Int)) = true := by simp
      have h2 : ¬ (k : Int) < (k : Int) := by omega
      clear hres hq
      go_enter Tryz.func78, Tryz.ntmps78
      go_wp2_with fail
      refine HP.out.mono ?_
      rintro e' w2 ⟨rfl, hb2⟩
      go_wp2_with fail
      go_ret2
      exact FIN.out _ HR.out _ hb2
    · have HR := Lib.hid hres
      have h1 : ((k : Int) == (k : Int)) = true := by simp
      have h2 : ¬ (k : Int) < (k : Int) := by omega
      clear hres
      rcases hq with hq | ⟨_, hq⟩
      · cases hq
      go_enter Tryz.func78, Tryz.ntmps78
      go_wp2_with fail
      refine HP.out.mono ?_
      rintro e' w2 ⟨rfl, hb2⟩
      go_wp2_with fail
      go_ret2
      exact FIN.out _ HR.out _ hb2
    · have HR := Lib.hid hres
      have h1 : ((k : Int) == (n : Int)) = false := by rw [beq_eq_false_iff_ne]; omega
      have h2 : ¬ (n : Int) < (k : Int) := by omega
      clear hres
      rcases hq with rfl | ⟨rfl, hq⟩
      all_goals
        go_enter Tryz.func78, Tryz.ntmps78
        go_wp2_with fail
        refine HP.out.mono ?_
        rintro e' w2 ⟨rfl, hb2⟩
        go_wp2_with fail
        go_ret2
        exact FIN.out _ HR.out _ hb2

end Go.Proofs.YtjjenpmahmbafaaGreatDoor

namespace Go.Proofs.YtjjenpmahmbafaaGreatDoor
open Go.RowKit Pt
end Go.Proofs.YtjjenpmahmbafaaGreatDoor

namespace Go.Proofs.YtjjenpmahmbafaaGreatDoor
open Go.RowKit Pt
theorem strs_at {w : World} {g : Nat} {l : List (List UInt8)} (h : Blk w g 9 (strs l).toArray) : Strs w.cell? (some ⟨g, 0, none⟩) l := fun i n hi => by
  refine ⟨g, 0, rfl, ?_⟩
  rw [h.cell, Nat.zero_add]
  simp [strs, hi]
end Go.Proofs.YtjjenpmahmbafaaGreatDoor


