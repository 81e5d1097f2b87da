/- The program's Sort, Merge, Under (layer 13). (By gen_gn.py.) -/
import Derived.Test.YtccacjkogdmleaaDoorGm
import Derived.Test.YtccacjkogdmleaaDoorKe
namespace Go.Proofs.YtccacjkogdmleaaDoor
open Go.RowKit Js Pt

theorem stays13 : Stays MaxT := fun _ _ h hb => h.on hb
theorem Fl.under_step {p : List UInt8} {l : List Fl.F} {i : Nat} {x : Fl.F} (hi : i < l.length) (hx : l[i] = x) : (Fl.under p (l.take i) ++ l.drop i).set i { x with inst := p ++ x.inst } = Fl.under p (l.take (i + 1)) ++ l.drop (i + 1) := by
  have h1 : (Fl.under p (l.take i)).length = i := by rw [Fl.under_length, List.length_take]; omega
  rw [List.set_append_right _ _ (by omega), h1, Nat.sub_self, List.drop_eq_getElem_cons hi, List.set_cons_zero, List.take_succ_eq_append_getElem hi, hx]
  simp [Fl.under]
theorem Fl.under_at {p : List UInt8} {l : List Fl.F} {i : Nat} {x : Fl.F} (hi : i < l.length) (hx : l[i] = x) : (Fl.under p (l.take i) ++ l.drop i)[i]? = some x := by
  have h1 : (Fl.under p (l.take i)).length = i := by rw [Fl.under_length, List.length_take]; omega
  rw [List.getElem?_append_right (by omega), h1, Nat.sub_self, List.drop_eq_getElem_cons hi, hx]
  rfl

set_option linter.unusedVariables false in
set_option linter.unusedSimpArgs false in
set_option maxRecDepth 100000 in
set_option maxHeartbeats 2000000 in
theorem raise13_any {w : World} {B : Nat} {A : Option Addr} {cp : Nat} {l : List Fl.F} (hown : w.ownsRow B 28 3 (.slice A l.length cp) l.length (fFlat l)) (hB : B ≤ w.heap.size) (hl : l.length ≤ 1000000) :
    Calls Tryd.prog 13 #[.slice A l.length cp] w fun e w' => ∃ (A' : Option Addr) (c' : Nat), e = .returned (.slice A' (Fl.sort l).length c') ∧ FAt w' A' (Fl.sort l) c' ∧ Below B w w' := by
  have HS := Lib.hid (sortF_any hown hl)
  clear hown
  go_enter Tryd.func13, Tryd.ntmps13
  go_wp2_with fail
  refine HS.out.mono ?_
  rintro e w1 ⟨rfl, hb1, d, hdl, hm, hord, hown1⟩
  have hc := compactF_any hown1 (Nat.le_trans hB hb1.size) (by omega) (Fl.compact_sort d hord hm)
  rw [hdl] at hc
  have HC := Lib.hid hc
  have HB1 := Lib.hid hb1
  clear HS hb1 hdl hm hord hown1 hc
  go_wp2_with fail
  refine HC.out.mono ?_
  rintro e2 w2 ⟨A2, c2, rfl, hf2, hb2⟩
  have HF2 := Lib.hid hf2
  have HB2 := Lib.hid (HB1.out.trans hb2)
  clear HC HB1 hf2 hb2
  go_wp2_with fail
  go_ret
  exact ⟨A2, c2, rfl, HF2.out, HB2.out⟩

set_option linter.unusedVariables false in
set_option linter.unusedSimpArgs false in
set_option maxRecDepth 100000 in
set_option maxHeartbeats 2000000 in
theorem sort13_any : SortT MaxT := fun l A c w _ hf hn => by
  have HC := Lib.hid (cloneF_any l A c w hf (by omega))
  clear hf
  unfold FP
  go_enter Tryd.func9, Tryd.ntmps9
  go_wp2_with fail
  refine HC.out.mono ?_
  rintro e1 w1 ⟨A1, c1, rfl, hown, hb⟩
  have HR := Lib.hid (raise13_any hown hb.size (by omega))
  have HB := Lib.hid hb
  clear HC hown hb
  go_wp2_with fail
  refine HR.out.mono ?_
  rintro e2 w2 ⟨A2, c2, rfl, hf2, hb2⟩
  have HF2 := Lib.hid hf2
  have HB2 := Lib.hid (HB.out.trans hb2)
  clear HR HB hf2 hb2
  go_wp2_with fail
  go_ret
  exact ⟨A2, c2, rfl, HF2.out, HB2.out⟩

set_option linter.unusedVariables false in
set_option linter.unusedSimpArgs false in
set_option maxRecDepth 100000 in
set_option maxHeartbeats 2000000 in
theorem merge13_any : MergeT MaxT := fun a b A B c d w _ hfa hfb _ _ hna hnb => by
  have hba := (Below.refl w.heap.size w).alloc (Nat.le_refl _) (.cells #[.slice A a.length c, .slice B b.length d] 22)
  have HC := Lib.hid (concatF_any (Blk.new w 22 #[.slice A a.length c, .slice B b.length d]) (hfa.on hba) (hfb.on hba) (by omega) (by omega))
  have HBA := Lib.hid hba
  have hab : (a ++ b).length ≤ 1000000 := by rw [List.length_append]; omega
  clear hfa hfb hba
  unfold FP
  go_enter Tryd.func10, Tryd.ntmps10
  go_wp2_with fail
  refine HC.out.mono ?_
  rintro e1 w1 ⟨A1, c1, rfl, hown, hb⟩
  have HR := Lib.hid (raise13_any hown hb.size hab)
  have HB := Lib.hid hb
  clear HC hown hb
  generalize (a ++ b).length = N at *
  go_wp2_with fail
  refine HR.out.mono ?_
  rintro e2 w2 ⟨A2, c2, rfl, hf2, hb2⟩
  have HF2 := Lib.hid hf2
  have HB2 := Lib.hid (HBA.out.trans ((HB.out.trans hb2).mono HBA.out.size))
  clear HR HB HBA hf2 hb2
  go_wp2_with fail
  go_ret
  exact ⟨A2, c2, rfl, HF2.out, HB2.out⟩

set_option linter.unusedVariables false in
set_option linter.unusedSimpArgs false in
set_option maxRecDepth 100000 in
set_option maxHeartbeats 2000000 in
theorem under13_any : UnderT MaxT := fun nm l A c w hG hnm hf hn hinst => by
  have hba := (Below.refl w.heap.size w).alloc (Nat.le_refl _) (.cells #[.string ⟨nm.toArray⟩] 9)
  have htl : (text [nm]).length ≤ 10000 := by
    have := text_len 1000 [nm] (fun n hn => by rw [List.mem_singleton.1 hn]; omega)
    simp at this; omega
  have HP := Lib.hid (ptrShow_any [nm] (some ⟨w.heap.size, 0, none⟩) 1 (w.alloc (.cells #[.string ⟨nm.toArray⟩] 9)) (hG.on hba) (strs_one13 w _ nm) (Nat.le_refl _) (by unfold maxLen; omega) (by omega))
  have HBA := Lib.hid hba
  have HF := Lib.hid hf
  have HI := Lib.hid hinst
  unfold FP
  obtain ⟨p, hp⟩ : ∃ p, text [nm] = p := ⟨_, rfl⟩
  rw [hp] at HP htl ⊢
  have HUL := Lib.hid (Fl.under_length p l)
  clear hp hba hf hinst hG
  go_enter Tryd.func11, Tryd.ntmps11
  go_wp2_with fail
  refine HP.out.mono ?_
  rintro e1 w1 ⟨rfl, hb1⟩
  have HB1 := Lib.hid (HBA.out.trans (hb1.mono HBA.out.size))
  have HC := Lib.hid (cloneF_any l A c w1 (HF.out.on HB1.out) (by omega))
  clear hb1 HBA HP HF
  go_wp2_with fail
  refine HC.out.mono ?_
  rintro e2 w2 ⟨A2, c2, rfl, hown2, hb2⟩
  have HO2 := Lib.hid hown2
  have HB2 := Lib.hid hb2
  clear HC hown2 hb2
  go_wp2_with fail
  go_loopw [16] (fun v16 wr => ∃ i : Nat, v16 = .int .i64 i ∧ i ≤ l.length ∧ wr.ownsRow w1.heap.size 28 3 (.slice A2 l.length c2) l.length (fFlat (Fl.under p (l.take i) ++ l.drop i)) ∧ Below w1.heap.size w1 wr) (fun v16 _ => l.length - (intOf v16).toNat)
  case atStart => exact ⟨0, rfl, Nat.zero_le _, by simpa [Fl.under] using HO2.out, HB2.out⟩
  case round =>
    obtain ⟨i, rfl, hi, hown, hbr⟩ := hrel
    obtain ⟨wz, hwz⟩ : ∃ W, W = wr := ⟨_, rfl⟩
    subst hwz
    have HO := Lib.hid hown
    have HB := Lib.hid hbr
    clear hown hbr
    by_cases hlt : i < l.length
    · have hii : (i : Int) < (l.length : Int) := by omega
      obtain ⟨x, hx⟩ : ∃ x, l[i]'hlt = x := ⟨_, rfl⟩
      have hxl := HI.out x (by rw [← hx]; exact List.getElem_mem hlt)
      obtain ⟨g, rfl, hg1, hg2⟩ : ∃ g, A2 = some ⟨g, 0, none⟩ ∧ w1.heap.size ≤ g ∧ g < wz.heap.size := by
        have hle := own_le HO.out
        cases A2 with
        | none => have := (hle.2.2.1 rfl).1; omega
        | some ad => obtain ⟨g, rfl, h1, h2⟩ := hle.2.2.2 ad rfl; exact ⟨g, rfl, h1, h2⟩
      obtain ⟨⟨c0, c1, c2'⟩, _⟩ := own_at13 HO.out (Fl.under_at hlt hx)
      have f0 := HO.out.frozenAt (i * 3)
      have hst := own_set HO.out (i * 3) (.string ⟨(p ++ x.inst).toArray⟩)
      rw [fFlat_set1 _ i x _ (Fl.under_at hlt hx), Fl.under_step hlt hx] at hst
      have HST := Lib.hid hst
      have HBS := Lib.hid (HB.out.setCell (p := ⟨g, i * 3, none⟩) hg1 (.string ⟨(p ++ x.inst).toArray⟩))
      clear hx hst
      obtain ⟨x1, x2, x3⟩ := x
      simp only at c0 c1 c2' hxl HST HBS
      have hcat : ∀ W, (Op.stringOp .add ⟨p.toArray⟩ ⟨x1.toArray⟩).run Tryd.prog W = .ok (.string ⟨(p ++ x1).toArray⟩) W := fun W => cat_mk W _ _ (by omega)
      have hle1 := (own_le HO.out).1
      go_wp2_with fail
      go_roundw
      case rel => exact ⟨i + 1, by go_num, by omega, HST.out.alloc _, HBS.out.alloc (by have := HBS.out.size; omega) _⟩
      case measure => simp [intOf]; omega
    · obtain rfl : i = l.length := by omega
      have hfo := HO.out
      rw [List.take_length, List.drop_length, List.append_nil] at hfo
      have HFU := Lib.hid (fat_own hfo).1
      have HBF := Lib.hid (HB1.out.trans (HB.out.mono HB1.out.size))
      clear hfo
      go_wp2_with fail
      go_ret
      rw [HUL.out]
      exact ⟨A2, c2, rfl, HFU.out, HBF.out⟩

end Go.Proofs.YtccacjkogdmleaaDoor

