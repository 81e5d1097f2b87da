/- The walks of layer 6 (ptr): the program's findLoose, plain, escaped; Split at a pointer's text. -/
import Derived.Test.YtjdkfkjkmjodlaaDoorKa
import Derived.Test.YtjdkfkjkmjodlaaDoorPv
import Derived.Test.YtjdkfkjkmjodlaaDoorShelf
import Derived.Test.YtjdkfkjkmjodlaaDoorMn
import Derived.Lib.Hide
namespace Go.Proofs.YtjdkfkjkmjodlaaDoor
open Go.RowKit Pt

/-- The library's own variable holds some number. -/
def MaxT (w : World) : Prop := ∃ m : Int, w.cell? ⟨0, 0, none⟩ = some (.int .i64 m)
theorem MaxT.on {w w' : World} (h : MaxT w) (hb : Below w.heap.size w w') : MaxT w' := by
  obtain ⟨m, hm⟩ := h
  exact ⟨m, le_below hb _ _ hm⟩
theorem MaxT.keep {B : Nat} {w w' : World} (h : MaxT w) (hb : Below B w w') (hB : w.heap.size ≤ B) : MaxT w' := h.on (hb.mono hB)

theorem prefix_on (r : List UInt8) (c : UInt8) (w : World) : Calls Tryd.prog 31 #[.string ⟨r.toArray⟩, .string ⟨#[c]⟩] w fun e w' => e = .returned (.bool (r.head? == some c)) ∧ w' = w := by
  refine (Tryd.strings_HasPrefix ⟨r.toArray⟩ ⟨#[c]⟩ w).mono ?_
  rintro e w' ⟨rfl, rfl⟩
  exact ⟨by rw [show (⟨#[c]⟩ : ByteArray).data.toList = [c] from rfl, show (⟨r.toArray⟩ : ByteArray).data.toList = r from rfl, Nm.prefix_one], rfl⟩

theorem repl_on (s old new : List UInt8) (q : List UInt8) (hq : Lib.replaceAll s old new = q) (w : World) (hT : MaxT w) (hs : s.length ≤ 100000000) (h1 : old ≠ []) (h2 : new.length ≤ 2) :
    Calls Tryd.prog 33 #[.string ⟨s.toArray⟩, .string ⟨old.toArray⟩, .string ⟨new.toArray⟩] w fun e w' => e = .returned (.string ⟨q.toArray⟩) ∧ Below w.heap.size w w' := by
  obtain ⟨m, hm⟩ := hT
  subst hq
  have hl : (⟨s.toArray⟩ : ByteArray).size = s.length := Lib.size_mk s
  have ho : 1 ≤ (⟨old.toArray⟩ : ByteArray).size := by rw [Lib.size_mk]; exact List.length_pos_iff.2 h1
  have hc := Lib.countB_le ⟨old.toArray⟩ ho s.length ⟨s.toArray⟩ (by omega)
  have hn : (⟨new.toArray⟩ : ByteArray).size ≤ 2 := by rw [Lib.size_mk]; exact h2
  have hmul := Nat.mul_le_mul hc hn
  exact Tryd.strings_ReplaceAll ⟨s.toArray⟩ ⟨old.toArray⟩ ⟨new.toArray⟩ m w (by omega) hm ho (by omega)

/-- Split at the text of names. -/
theorem split_on (n : List UInt8) (l : List (List UInt8)) (w : World) (hT : MaxT w) (hs : (name n ++ text l).length ≤ 100000000) :
    Calls Tryd.prog 20 #[.string ⟨(name n ++ text l).toArray⟩, .string ⟨#[47]⟩] w fun e w' => e = .returned (.slice (some ⟨w.heap.size, 0, none⟩) (l.length + 1) (l.length + 1)) ∧ w' = w.alloc (.cells (strs ((n :: l).map name)).toArray 9) := by
  obtain ⟨m, hm⟩ := hT
  have hl : (⟨(name n ++ text l).toArray⟩ : ByteArray).size = (name n ++ text l).length := Lib.size_mk _
  have ho : 1 ≤ (⟨#[47]⟩ : ByteArray).size := by decide
  have hall := Lib.splitB_all ⟨#[47]⟩ ho 0 _ ⟨(name n ++ text l).toArray⟩ rfl
  have hsp : (Lib.splitB ⟨#[47]⟩ 0 (Lib.countB ⟨(name n ++ text l).toArray⟩ ⟨#[47]⟩) ⟨(name n ++ text l).toArray⟩).map (·.data.toList) = (n :: l).map name := by
    rw [Lib.splitB_data]
    exact split_text n l
  have hlen : Lib.countB ⟨(name n ++ text l).toArray⟩ ⟨#[47]⟩ + 1 = l.length + 1 := by
    have := congrArg List.length hsp
    rw [List.length_map, hall] at this
    simpa using this
  have hstr : (Lib.splitB ⟨#[47]⟩ 0 (Lib.countB ⟨(name n ++ text l).toArray⟩ ⟨#[47]⟩) ⟨(name n ++ text l).toArray⟩).map Value.string = strs ((n :: l).map name) := by
    rw [← hsp, strs, List.map_map]
    refine List.map_congr_left fun x _ => ?_
    rfl
  refine (Tryd.strings_Split ⟨(name n ++ text l).toArray⟩ ⟨#[47]⟩ m w (by omega) hm ho).mono ?_
  rintro e w' ⟨rfl, rfl⟩
  rw [hlen, hstr]
  exact ⟨by norm_cast, rfl⟩

set_option linter.unusedSimpArgs false in
set_option linter.unusedVariables false in
set_option maxRecDepth 100000 in
set_option maxHeartbeats 1000000 in
theorem plain_any (n : List UInt8) (w : World) (hT : MaxT w) (hs : n.length ≤ 10000000) :
    Calls Tryd.prog 21 #[.string ⟨(name n).toArray⟩] w fun e w' => e = .returned (.string ⟨n.toArray⟩) ∧ Below w.heap.size w w' := by
  have hl := name_len n
  have hh := half_len n
  have H1 := Lib.hid (repl_on (name n) [126, 49] [47] (half n) (half_eq n) w hT (by omega) (by simp) (by simp))
  have H2 := Lib.hid (fun W hT => repl_on (half n) [126, 48] [126] n (whole_eq n) W hT (by omega) (by simp) (by simp))
  have HT := Lib.hid hT
  clear hT
  go_enter Tryd.func21, Tryd.ntmps21
  go_wp2_with fail
  refine H1.out.mono ?_
  rintro e w1 ⟨rfl, hb1⟩
  go_wp2_with fail
  refine (H2.out _ (HT.out.on hb1)).mono ?_
  rintro e w2 ⟨rfl, hb2⟩
  go_wp2_with fail
  go_ret
  exact ⟨rfl, hb1.trans (hb2.mono hb1.size)⟩

set_option linter.unusedSimpArgs false in
set_option linter.unusedVariables false in
set_option maxRecDepth 100000 in
set_option maxHeartbeats 1000000 in
theorem escaped_any (n : List UInt8) (w : World) (hT : MaxT w) (hs : n.length ≤ 10000000) :
    Calls Tryd.prog 26 #[.string ⟨n.toArray⟩] w fun e w' => e = .returned (.string ⟨(name n).toArray⟩) ∧ Below w.heap.size w w' := by
  have hh := esc1_len n
  have H1 := Lib.hid (repl_on n [126] [126, 48] _ rfl w hT (by omega) (by simp) (by simp))
  have H2 := Lib.hid (fun W hT => repl_on (Lib.replaceAll n [126] [126, 48]) [47] [126, 49] (name n) (escaped_eq n) W hT (by omega) (by simp) (by simp))
  have HT := Lib.hid hT
  clear hT
  generalize Lib.replaceAll n [126] [126, 48] = h at *
  go_enter Tryd.func26, Tryd.ntmps26
  go_wp2_with fail
  refine H1.out.mono ?_
  rintro e w1 ⟨rfl, hb1⟩
  go_wp2_with fail
  refine (H2.out _ (HT.out.on hb1)).mono ?_
  rintro e w2 ⟨rfl, hb2⟩
  go_wp2_with fail
  go_ret
  exact ⟨rfl, hb1.trans (hb2.mono hb1.size)⟩

/-- How far findLoose has come. -/
def Loosing (t : List UInt8) (w : World) (v : Value) (wr : World) : Prop :=
  ∃ j : Nat, j ≤ t.length ∧ v = .int .i64 j ∧ loose t 0 = loose (t.drop j) j ∧ wr = w

set_option linter.unusedSimpArgs false in
set_option linter.unusedVariables false in
set_option maxRecDepth 100000 in
set_option maxHeartbeats 1000000 in
theorem findLoose_any (t : List UInt8) (w : World) (hs : t.length ≤ 1000000000000) :
    Calls Tryd.prog 19 #[.string ⟨t.toArray⟩] w fun e w' => e = .returned (.tuple #[.int .i64 ((loose t 0).getD 0 : Nat), .bool (loose t 0).isSome]) ∧ Below w.heap.size w w' := by
  go_enter Tryd.func19, Tryd.ntmps19
  go_wp2_with fail
  go_loopw [8] (Loosing t w) (fun v _ => t.length - (intOf v).toNat)
  case atStart => exact ⟨0, by omega, rfl, rfl, rfl⟩
  case round =>
    obtain ⟨j, hj, rfl, hl, rfl⟩ := hrel
    have HL := Lib.hid hl
    clear hl
    by_cases hlt : j < t.length
    · obtain ⟨c, hc⟩ : ∃ c, t[j] = c := ⟨_, rfl⟩
      have hix : ∀ h, (⟨t.toArray⟩ : ByteArray)[j]'h = c := fun h => by rw [← hc]; rfl
      have HD := Lib.hid (show t.drop j = c :: t.drop (j + 1) by rw [List.drop_eq_getElem_cons hlt, hc])
      have HG := Lib.hid (show loose t 0 = loose (c :: t.drop (j + 1)) j by rw [← HD.out]; exact HL.out)
      by_cases c1 : c = 126
      · have b1 : ((c.toNat : Int) != 126) = false := by rw [c1]; rfl
        have hex : (⟨t.toArray⟩ : ByteArray).extract (j + 1) t.length = ⟨(t.drop (j + 1)).toArray⟩ := by
          rw [Lib.extract_mk, List.take_of_length_le (by rw [List.length_drop]; omega)]
        generalize hr : t.drop (j + 1) = r at *
        have HRD := Lib.hid hr
        have HNX := Lib.hid (fun (h : ¬ (r.head? ≠ some 48 ∧ r.head? ≠ some 49)) => show loose t 0 = loose (t.drop (j + 1)) (j + 1) by rw [HG.out, loose_cons, if_neg (fun k => h k.2), HRD.out])
        have HBD := Lib.hid (fun (h : r.head? ≠ some 48 ∧ r.head? ≠ some 49) => show loose t 0 = some j by rw [HG.out, loose_cons, if_pos ⟨c1, h⟩])
        have HP1 := Lib.hid (fun W => prefix_on r 48 W)
        have HP2 := Lib.hid (fun W => prefix_on r 49 W)
        have HQ1 := Lib.hid (show ((r.head? == some 48) = true ↔ r.head? = some 48) from beq_iff_eq)
        have HQ2 := Lib.hid (show ((r.head? == some 49) = true ↔ r.head? = some 49) from beq_iff_eq)
        generalize (r.head? == some 48) = q1 at *
        generalize (r.head? == some 49) = q2 at *
        clear hr c1
        go_wp2_with fail
        refine (HP1.out _).mono ?_
        rintro e w' ⟨rfl, hw⟩
        subst hw
        cases q1 with
        | true =>
          have HN := Lib.hid (HNX.out (fun h => h.1 (HQ1.out.1 rfl)))
          go_wp2_with fail
          go_roundw
          case rel => exact ⟨j + 1, by omega, by go_num, HN.out, rfl⟩
          case measure => simp [intOf]; omega
        | false =>
          have h1 : r.head? ≠ some 48 := fun h => absurd (HQ1.out.2 h) (by decide)
          have H1 := Lib.hid h1
          clear h1
          go_wp2_with fail
          refine (HP2.out _).mono ?_
          rintro e w' ⟨rfl, hw⟩
          subst hw
          cases q2 with
          | true =>
            have HN := Lib.hid (HNX.out (fun h => h.2 (HQ2.out.1 rfl)))
            go_wp2_with fail
            go_roundw
            case rel => exact ⟨j + 1, by omega, by go_num, HN.out, rfl⟩
            case measure => simp [intOf]; omega
          | false =>
            have HN := Lib.hid (HBD.out ⟨H1.out, fun h => absurd (HQ2.out.2 h) (by decide)⟩)
            go_wp2_with fail
            go_ret2
            rw [HN.out]
            exact ⟨rfl, Below.refl _ _⟩
      · have b1 : ((c.toNat : Int) != 126) = true := by have := byte_neb 126 c1; simpa using this
        have HN := Lib.hid (show loose t 0 = loose (t.drop (j + 1)) (j + 1) by rw [HG.out, loose_cons, if_neg (fun h => c1 h.1)])
        clear c1
        go_wp2_with fail
        go_roundw
        case rel => exact ⟨j + 1, by omega, by go_num, HN.out, rfl⟩
        case measure => simp [intOf]; omega
    · obtain rfl : j = t.length := by omega
      have HN := Lib.hid (show loose t 0 = none by rw [HL.out, List.drop_length]; rfl)
      go_wp2_with fail
      go_ret2
      rw [HN.out]
      exact ⟨rfl, Below.refl _ _⟩

end Go.Proofs.YtjdkfkjkmjodlaaDoor

