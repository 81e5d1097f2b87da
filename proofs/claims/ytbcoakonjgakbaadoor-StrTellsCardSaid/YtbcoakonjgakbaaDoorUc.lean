/- The walks of the document's answers of layer 2, fourth part: char. -/
import Derived.Test.YtbcoakonjgakbaaDoorUb
namespace Go.Proofs.YtbcoakonjgakbaaDoor
open Go.RowKit

/-- Bytes that lie in a block, as a string. -/
theorem bytes_str (W : World) (b n : Nat) (l : List UInt8) (hn : l.length = n) (h : ∀ j (hj : j < l.length), W.cell? ⟨b, j, none⟩ = some (.int .u8 l[j].toNat)) :
    (convert 59 9 (.slice (some ⟨b, 0, none⟩) n n)).run Tryd.prog W = .ok (.string ⟨l.toArray⟩) W := by
  subst hn
  refine run_convert_bytes_back W 59 9 5 ⟨b, 0, none⟩ l.length l Tryd.underlying59 Tryd.underlying5 Tryd.underlying9 ?_
  intro j hj
  have e : Addr.add ⟨b, 0, none⟩ j = ⟨b, j, none⟩ := by
    unfold Addr.add
    split
    · rename_i e; subst e; rfl
    · rw [Nat.zero_add]
  show W.cell? (Addr.add ⟨b, 0, none⟩ j) = _
  rw [e, h j hj]

/-- The bytes of a character, laid in a new block, as a string. -/
theorem rune_str (w : World) (v : Int) (zs : List Int) (hz : Lib.encodeRuneZ v = zs) :
    (convert 59 9 (.slice (some ⟨w.heap.size, 0, none⟩) zs.length zs.length)).run Tryd.prog (w.alloc (.cells (zs.map (Value.int .u8)).toArray 5)) = .ok (.string ⟨(Lib.encodeRune v).toArray⟩) (w.alloc (.cells (zs.map (Value.int .u8)).toArray 5)) := by
  subst hz
  have hb := Lib.encodeRuneZ_byte v
  unfold Lib.encodeRune
  generalize Lib.encodeRuneZ v = zs at hb ⊢
  refine bytes_str _ _ _ _ (by rw [List.length_map]) ?_
  intro j hj
  rw [List.length_map] at hj
  have hx := hb zs[j] (List.getElem_mem hj)
  rw [List.getElem_map]
  rw [show (zs[j].toNat.toUInt8).toNat = zs[j].toNat by rw [show zs[j].toNat.toUInt8 = UInt8.ofNat zs[j].toNat from rfl, UInt8.toNat_ofNat']; omega]
  simp [hj]
  omega

set_option linter.unusedSimpArgs false in
set_option maxRecDepth 100000 in
set_option maxHeartbeats 1000000 in
theorem char_any (v : Nat) (w : World) (hv : St.scalar v) :
    Calls Tryd.prog 47 #[.int .i64 v] w fun e w' => e = .returned (.string ⟨(Lib.encodeRune (v : Int)).toArray⟩) ∧ Below w.heap.size w w' := by
  have HV := Lib.hid hv
  have hv1 : v ≤ 1114111 := by unfold St.scalar at hv; omega
  clear hv
  by_cases c1 : v < 128
  · have hcv := rune_str w v [(v : Int)] (Lib.encodeRuneZ_one (by omega) (by omega))
    simp only [List.map_cons, List.map_nil, List.length_cons, List.length_nil, Nat.zero_add, Nat.reduceAdd] at hcv
    go_enter Tryd.func47, Tryd.ntmps47
    go_wp2
    go_ret
    exact ⟨rfl, (Below.refl _ _).alloc (Nat.le_refl _) _⟩
  · by_cases c2 : v < 2048
    · have hcv := rune_str w v [192 + (v : Int) / 64, 128 + (v : Int) % 64] (Lib.encodeRuneZ_two (by omega) (by omega))
      simp only [List.map_cons, List.map_nil, List.length_cons, List.length_nil, Nat.zero_add, Nat.reduceAdd] at hcv
      go_enter Tryd.func47, Tryd.ntmps47
      go_wp2
      go_ret
      exact ⟨rfl, (Below.refl _ _).alloc (Nat.le_refl _) _⟩
    · by_cases c3 : v < 65536
      · have hcv := rune_str w v [224 + (v : Int) / 4096, 128 + (v : Int) / 64 % 64, 128 + (v : Int) % 64] (Lib.encodeRuneZ_three (by have := HV.out; unfold St.scalar at this; omega))
        have d1 : decide ((v : Int) < 128) = false := by simp; omega
        have d2 : decide ((v : Int) < 2048) = false := by simp; omega
        have i3 : (v : Int) < 65536 := by omega
        clear c1 c2 c3 hv1
        simp only [List.map_cons, List.map_nil, List.length_cons, List.length_nil, Nat.zero_add, Nat.reduceAdd] at hcv
        go_enter Tryd.func47, Tryd.ntmps47
        go_wp2
        go_ret
        exact ⟨rfl, (Below.refl _ _).alloc (Nat.le_refl _) _⟩
      · have hcv := rune_str w v [240 + (v : Int) / 262144, 128 + (v : Int) / 4096 % 64, 128 + (v : Int) / 64 % 64, 128 + (v : Int) % 64] (Lib.encodeRuneZ_four (by omega) (by omega))
        have d1 : decide ((v : Int) < 128) = false := by simp; omega
        have d2 : decide ((v : Int) < 2048) = false := by simp; omega
        have d3 : decide ((v : Int) < 65536) = false := by simp; omega
        have i3 : (v : Int) ≤ 1114111 := by omega
        clear c1 c2 c3 hv1
        simp only [List.map_cons, List.map_nil, List.length_cons, List.length_nil, Nat.zero_add, Nat.reduceAdd] at hcv
        go_enter Tryd.func47, Tryd.ntmps47
        go_wp2
        go_ret
        exact ⟨rfl, (Below.refl _ _).alloc (Nat.le_refl _) _⟩

end Go.Proofs.YtbcoakonjgakbaaDoor
