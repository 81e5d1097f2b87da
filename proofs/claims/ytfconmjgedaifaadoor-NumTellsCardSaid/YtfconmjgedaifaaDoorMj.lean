/- Mj: Wh Wi, in one text. -/
import Derived.Test.YtfconmjgedaifaaDoorMi
import Derived.Test.YtfconmjgedaifaaDoorWg
import Derived.Lib.IfaceEq
import Derived.Test.YtfconmjgedaifaaDoorMa
/- The walks of layer 1 (num), eighth part: Of, and the law's Code. -/
namespace Go.Proofs.YtfconmjgedaifaaDoor
open Go.RowKit

theorem codeInfo : (Tryd.prog.info? 68).map (fun i => i.comparable) = some true := by kernel_rfl

set_option maxHeartbeats 400000 in
theorem code_none (w : World) : Calls Tryd.prog 13 #[.nilIface] w fun e w' => e = .returned (.int .i64 0) ∧ w = w' := by
  go_enter Tryd.func13, Tryd.ntmps13
  go_wp2
  go_ret
  exact ⟨rfl, rfl⟩

set_option maxHeartbeats 400000 in
theorem code_some (k : Int) (w : World) (h0 : 1 ≤ k) (h1 : k ≤ 14) : Calls Tryd.prog 13 #[.iface 68 (.int .i64 k)] w fun e w' => e = .returned (.int .i64 k) ∧ w = w' := by
  have he : ∀ (a b : Int) (W : World), (binOp .eql 26 (.iface 68 (.int .i64 a)) (.iface 68 (.int .i64 b))).run Tryd.prog W = .ok (.bool (a == b)) W := fun a b W => Lib.run_eql_iface_int W a b Tryd.underlying26 codeInfo Tryd.underlying68
  go_enter Tryd.func13, Tryd.ntmps13
  go_wp2
  go_loop [3] (fun i => ∃ j : Int, 1 ≤ j ∧ j ≤ k ∧ i = .int .i64 j) (fun i => (15 - intOf i).toNat)
  case atStart => exact ⟨1, by omega, h0, rfl⟩
  case round =>
    obtain ⟨j, hj1, hj2, rfl⟩ := hrel
    by_cases hjk : k = j
    · subst hjk
      go_wp2
      go_ret
      exact ⟨rfl, rfl⟩
    · have hb : (k == j) = false := by simpa using hjk
      go_wp2
      go_round
      case rel => exact ⟨j + 1, by omega, by omega, rfl⟩
      case measure => simp [intOf]; omega

theorem code_any (k : Int) (w : World) (h0 : 0 ≤ k) (h1 : k ≤ 14) : Calls Tryd.prog 13 #[errV k] w fun e w' => e = .returned (.int .i64 k) ∧ w = w' := by
  unfold errV
  by_cases h : k = 0
  · subst h; exact code_none w
  · rw [if_neg h]; exact code_some k w (by omega) h1

set_option maxHeartbeats 400000 in
theorem of_any (k : Int) (w : World) (h0 : -9223372036854775808 ≤ k) (h1 : k ≤ 9223372036854775807) (htab : Tab w) :
    Calls Tryd.prog 14 #[.int .i64 k] w fun e w' => e = .returned (numV (Nm.parse (Lib.itoa k)).1) ∧ Below w.heap.size w w' := by
  have HT := Lib.hid htab
  clear htab
  go_enter Tryd.func14, Tryd.ntmps14
  go_wp2_with fail
  refine (Tryd.strconv_Itoa _ h0 h1 _ (HT.out.keep ((Below.refl _ _).alloc (Nat.le_refl _) _))).mono ?_
  rintro e w1 ⟨rfl, k4, os4, rfl⟩
  have hb1 := below_grow (w.alloc (.cells #[.bool false, .string ⟨#[]⟩, .int .i64 0] 24)) k4 os4
  generalize Sort.grow _ os4 = w1 at hb1 ⊢
  have hz1 := hb1.size
  simp at hz1
  go_wp2_with fail
  refine (parse_any _ _ (by rw [Lib.size_mk]; have := Lib.itoa_length_le k h0 h1; omega)).mono ?_
  rw [show (⟨(Lib.itoa k).toArray⟩ : ByteArray).data.toList = Lib.itoa k from rfl]
  rintro e w2 ⟨rfl, hb2⟩
  have hz2 := hb2.size
  generalize hp : Nm.parse (Lib.itoa k) = r
  have HP := Lib.hid hp
  clear hp
  obtain ⟨⟨nn, nd, nx⟩, nc⟩ := r
  have h3 : Below (w.heap.size + 1) (w.alloc (.cells #[.bool false, .string ⟨#[]⟩, .int .i64 0] 24)) w2 := (hb1.mono (by simp)).trans (hb2.mono (by omega))
  obtain ⟨r0, r1, r2, r3⟩ := res_cells h3
  have k2 : w.heap.size < w2.heap.size := by omega
  have h4 : Below w.heap.size w w2 := ((Below.refl _ _).alloc (Nat.le_refl _) _).trans (h3.mono (Nat.le_succ _))
  clear h3 hb1 hb2
  go_wp2
  refine bodyPost_ret (v := numV (Nm.parse (Lib.itoa k)).1) ?_ rfl ⟨rfl, ?_⟩
  · rw [HP.out]
    simp [results, Tryd.results14, go_sem, r0, r1, r2, k2]
  · exact Below.alloc (below_set (below_set (below_set h4 (Nat.le_refl _) _ _) (Nat.le_refl _) _ _) (Nat.le_refl _) _ _) (by simp; omega) _

end Go.Proofs.YtfconmjgedaifaaDoor

/- The walks of layer 1 (num), ninth part: the laws' head. -/
namespace Go.Proofs.YtfconmjgedaifaaDoor
open Go.RowKit

set_option maxHeartbeats 400000 in
theorem up_any (w : World) (htab : Tab w) :
    Calls Tryd.prog 10 #[] w fun e w' => e = .returned (.bool true) ∧ Below w.heap.size w w' := by
  have HT := Lib.hid htab
  clear htab
  go_enter Tryd.func10, Tryd.ntmps10
  go_wp2_with fail
  refine (parse_any _ _ (by decide)).mono ?_
  rw [show (⟨#[45, 48, 46, 49, 53, 48]⟩ : ByteArray).data.toList = [45, 48, 46, 49, 53, 48] from rfl, Nm.parse_ex1]
  rintro e w1 ⟨rfl, hb1⟩
  go_wp2_with fail
  refine (parse_any _ _ (by decide)).mono ?_
  rw [show (⟨#[48, 49]⟩ : ByteArray).data.toList = [48, 49] from rfl, Nm.parse_ex2]
  rintro e w2 ⟨rfl, hb2⟩
  have hz1 := hb1.size
  have hz2 := hb2.size
  simp at hz2
  have c0 := hb2.cell (p := ⟨w1.heap.size, 0, none⟩) (by simp)
  have c1 := hb2.cell (p := ⟨w1.heap.size, 1, none⟩) (by simp)
  have c2 := hb2.cell (p := ⟨w1.heap.size, 2, none⟩) (by simp)
  simp at c0 c1 c2
  have k1 : w1.heap.size < w2.heap.size := by omega
  rw [show errV 0 = .nilIface from rfl, show errV 1 = .iface 68 (.int .i64 1) from rfl]
  have h02 : Below w.heap.size w w2 := (hb1.alloc hz1 _).trans (hb2.mono (by simp; omega))
  go_wp2_with fail
  refine (show_any true [49, 53] (-2) _ ⟨by decide, by decide, by decide⟩ (HT.out.keep (h02.alloc (by omega) _))).mono ?_
  rw [Nm.text_ex]
  rintro e w3 ⟨rfl, hb3⟩
  have hz3 := hb3.size
  simp at hz3
  go_wp2_with fail
  refine (code_some 1 _ (by decide) (by decide)).mono ?_
  rintro e w4 ⟨rfl, rfl⟩
  go_wp2
  go_ret
  exact ⟨rfl, (h02.alloc (by omega) _).trans (hb3.mono (by simp; omega))⟩

end Go.Proofs.YtfconmjgedaifaaDoor

