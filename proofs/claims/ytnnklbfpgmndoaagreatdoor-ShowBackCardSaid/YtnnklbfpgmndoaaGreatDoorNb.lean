/- Nb: Ze Zf, in one text. -/
import Derived.Test.YtnnklbfpgmndoaaGreatDoorZd
import Derived.Test.YtnnklbfpgmndoaaGreatDoorMp
import Derived.Test.YtnnklbfpgmndoaaGreatDoorMr
/- The program's parse, fifth part: word. -/
namespace Go.Proofs.YtnnklbfpgmndoaaGreatDoor
open Go.RowKit Js

def Wording (rb : Nat) (s : ByteArray) (q t : List UInt8) (d : Nat) (w : World) (i : Value) (wr : World) : Prop :=
  ∃ j : Nat, j ≤ q.length ∧ i = .int .i64 j ∧ Sole rb w wr ∧ ∃ a u, Pr wr rb s a u d ∧ Ps.lit q t = Ps.lit (q.drop j) u

set_option linter.unusedSimpArgs false in
set_option linter.unusedVariables false in
set_option maxRecDepth 100000 in
set_option maxHeartbeats 4000000 in
theorem word_any {rb : Nat} {s : ByteArray} {a : Nat} {t : List UInt8} {d : Nat} {w : World} (h : Pr w rb s a t d) (hs : s.size ≤ 1000000000000) (q : ByteArray) (hq : q.size ≤ 1000) (hz : ∀ c ∈ q.data.toList, c ≠ 0) :
    Calls Tryz.prog 59 #[.pointer (some ⟨rb, 0, none⟩), .string q] w (Went rb s d w (Ps.lit q.data.toList t) nil0) := by
  have H := Lib.hid h
  have HZ := Lib.hid hz
  clear h hz
  have HQL := Lib.hid (show q.data.toList.length = q.size from (Lib.size_eq q).symm)
  go_enter Tryz.func59, Tryz.ntmps59
  go_wp2_with fail
  go_loopw [7] (Wording rb s q.data.toList t d w) (fun i _ => q.size - (intOf i).toNat)
  case atStart => exact ⟨0, Nat.zero_le _, rfl, .refl _ _, a, t, H.out, rfl⟩
  case round =>
    obtain ⟨j, hj, rfl, hW, a1, u, hR, hl⟩ := hrel
    rw [HQL.out] at hj
    have HW := Lib.hid hW
    have HR := Lib.hid hR
    have HL := Lib.hid hl
    obtain ⟨c0, c1, c2⟩ := hR.1.three
    have hf := hR.1.frozen
    have HA1 := Lib.hid hR.2.1
    clear hR hl hW
    have HP := Lib.hid (fun n => here_any (HR.out.drewN n) hs)
    by_cases hlt : j < q.size
    · have hdr := drop_at q j hlt
      have hix : ∀ h, q[j]'h = q.data.toList[j]'(len_at hlt) := fun _ => rfl
      have hbz : q.data.toList[j]'(len_at hlt) ≠ 0 := HZ.out _ (List.getElem_mem _)
      have HDR := Lib.hid hdr
      clear hdr
      generalize q.data.toList[j]'(len_at hlt) = b at hix HDR hbz
      cases u with
      | nil =>
        have HE := Lib.hid (show Ps.lit q.data.toList t = .bad 1 0 by rw [HL.out, HDR.out]; rfl)
        have hne2 : ((0 : Int) != (b.toNat : Int)) = true := by
          rw [bne_iff_ne]; intro e; exact hbz (UInt8.toNat_inj.1 (by show b.toNat = 0; omega))
        have HF := Lib.hid (fun n => pfail_any s a1 1 0 (a1 : Int) 1 rfl rfl (by have := HA1.out; simpa using this) (wr.drewN n))
        simp only [hb] at HP
        clear hbz
        go_wp2_with fail
        go_quiet ((go_at_call 49; exact Calls.quiet_of (HP.out _)))
        go_wp2_with fail
        refine (HF.out _).mono ?_
        rintro e w2 ⟨⟨g, p, h1, rfl, h2⟩, hb2⟩
        have HFI := Lib.hid (show Went rb s d w (Ps.lit q.data.toList t) nil0 (.panicked [{ v := .iface 52 (.agg #[.iface 47 (.pointer (some ⟨g, 0, none⟩))]), recovered := false }]) w2 by rw [HE.out]; exact ⟨(HW.out.drewN _).trans (.of_below hb2), g, p, h1, rfl, h2⟩)
        clear h1 h2 hb2
        go_wp2_with fail
        exact ⟨rfl, HFI.out⟩
      | cons c v =>
        simp only [List.length_cons] at HA1
        simp only [hb] at HP
        have hav : a1 + (v.length + 1) = s.size := HA1.out
        by_cases hcb : c = b
        · subst hcb
          have HE := Lib.hid (show Ps.lit q.data.toList t = Ps.lit (q.data.toList.drop (j + 1)) v by rw [HL.out, HDR.out]; simp [Ps.lit])
          have hne2 : ((c.toNat : Int) != (c.toNat : Int)) = false := by simp
          have HSTEP := Lib.hid (fun n => (HR.out.drewN n).step)
          clear hbz
          go_wp2_with fail
          go_quiet ((go_at_call 49; exact Calls.quiet_of (HP.out _)))
          go_wp2_with fail
          go_roundw
          case rel => exact ⟨j + 1, by rw [HQL.out]; omega, by go_num, (HW.out.drewN _).set _ _, a1 + 1, v, HSTEP.out _, HE.out⟩
          case measure => simp [intOf]; omega
        · have HE := Lib.hid (show Ps.lit q.data.toList t = .bad 1 (v.length + 1) by rw [HL.out, HDR.out]; simp [Ps.lit, hcb])
          have hne2 : ((c.toNat : Int) != (b.toNat : Int)) = true := by
            rw [bne_iff_ne]; intro e; exact hcb (UInt8.toNat_inj.1 (by omega))
          have HF := Lib.hid (fun n => pfail_any s a1 1 (v.length + 1) (a1 : Int) 1 rfl rfl hav (wr.drewN n))
          clear hcb hbz
          go_wp2_with fail
          go_quiet ((go_at_call 49; exact Calls.quiet_of (HP.out _)))
          go_wp2_with fail
          refine (HF.out _).mono ?_
          rintro e w2 ⟨⟨g, p, h1, rfl, h2⟩, hb2⟩
          have HFI := Lib.hid (show Went rb s d w (Ps.lit q.data.toList t) nil0 (.panicked [{ v := .iface 52 (.agg #[.iface 47 (.pointer (some ⟨g, 0, none⟩))]), recovered := false }]) w2 by rw [HE.out]; exact ⟨(HW.out.drewN _).trans (.of_below hb2), g, p, h1, rfl, h2⟩)
          clear h1 h2 hb2
          go_wp2_with fail
          exact ⟨rfl, HFI.out⟩
    · obtain rfl : j = q.size := by omega
      have HE := Lib.hid (show Ps.lit q.data.toList t = .ok () u by rw [HL.out, List.drop_eq_nil_of_le (by rw [HQL.out]; omega)]; cases u <;> rfl)
      go_wp2_with fail
      go_end0
      rw [HE.out]
      exact ⟨HW.out, ⟨_, rfl, rfl⟩, a1, HR.out⟩

end Go.Proofs.YtnnklbfpgmndoaaGreatDoor

/- The program's parse, sixth part: null, yes, no, quoted. -/
namespace Go.Proofs.YtnnklbfpgmndoaaGreatDoor
open Go.RowKit Js

/-- It hands a value back, in memory of its own. -/
def VWent (rb : Nat) (s : ByteArray) (d : Nat) (w : World) (r : Ps.R Vl) (e : Ending) (w' : World) : Prop :=
  Went rb s d w r (fun v x w' => v.In (w'.on (w.heap.size ≤ ·)) x) e w'
theorem Pr.far {w w' : World} {rb : Nat} {s : ByteArray} {a : Nat} {t : List UInt8} {d : Nat} (h : Pr w rb s a t d) (hb : w'.heap[rb]? = w.heap[rb]?) : Pr w' rb s a t d := ⟨hb.trans h.1, h.2.1, h.2.2⟩

set_option linter.unusedSimpArgs false in
set_option linter.unusedVariables false in
set_option maxRecDepth 100000 in
set_option maxHeartbeats 4000000 in
theorem null_any {rb : Nat} {s : ByteArray} {a : Nat} {t : List UInt8} {d : Nat} {w : World} (h : Pr w rb s a t d) (hs : s.size ≤ 1000000000000) :
    Calls Tryz.prog 41 #[.pointer (some ⟨rb, 0, none⟩)] w (VWent rb s d w ((Ps.lit [110, 117, 108, 108] t).map fun _ => Ps.mkN)) := by
  have HS0 := Lib.hid ((Sole.refl rb w).alloc (.cells zero8 28))
  have HZ := Lib.hid (Blk.new w 28 zero8)
  have HW := Lib.hid (word_any (h.on ((Below.refl _ _).alloc (Nat.le_refl _) (.cells zero8 28))) hs ⟨([110, 117, 108, 108] : List UInt8).toArray⟩ (by decide) (by decide))
  have hrb := h.lt
  clear h
  go_enter Tryz.func41, Tryz.ntmps41
  go_wp2_with fail
  refine HW.out.mono ?_
  cases hq : Ps.lit [110, 117, 108, 108] t with
  | ok v u =>
    rintro e w2 ⟨hS, ⟨x, rfl, hx⟩, a2, hP⟩
    have hx' : x = .tuple #[] := hx
    subst hx'
    have HR := Lib.hid (show (Ps.lit [110, 117, 108, 108] t).map (fun _ => Ps.mkN) = .ok (Ps.mkN) u by rw [hq]; rfl)
    have HS := Lib.hid (HS0.out.trans hS)
    have HZ2 := Lib.hid (hS.blk HZ.out (by omega))
    have HP := Lib.hid hP
    obtain ⟨z0, z1, z2, z3, z4, z5, z6, z7⟩ := HZ2.out.eight
    have zf := HZ2.out.frozen
    clear hS hP hx hq
    go_wp2_with fail
    have hfin := HZ2.out.set8 (.int .i64 0) (.bool false) (.bool false) (.string ⟨#[]⟩) (.int .i64 0) (.string ⟨#[]⟩) (.slice none 0 0) (.slice none 0 0)
    refine bodyPost_ret (results_row1 (l := [_, _, _, _, _, _, _, _]) rfl _ _ _ rfl hfin Tryz.underlying28 rfl (by kernel_rfl)) rfl ?_
    unfold VWent
    rw [HR.out]
    exact ⟨HS.out.set8 (Nat.le_refl _) _ _ _ _ _ _ _ _, ⟨_, rfl, leaf_in _ 0 false Nm.Num.zero []⟩, a2, HP.out.far (heap_set8 _ _ _ (by omega) _ _ _ _ _ _ _ _)⟩
  | bad c l =>
    rintro e w2 ⟨hS, g, p, h1, rfl, h2⟩
    have HFI := Lib.hid (show VWent rb s d w ((Ps.lit [110, 117, 108, 108] t).map fun _ => Ps.mkN) (.panicked [{ v := .iface 52 (.agg #[.iface 47 (.pointer (some ⟨g, 0, none⟩))]), recovered := false }]) w2 by unfold VWent; rw [hq]; exact ⟨HS0.out.trans hS, g, p, h1, rfl, h2⟩)
    clear h1 h2 hS hq
    go_wp2_with fail
    exact ⟨rfl, HFI.out⟩

set_option linter.unusedSimpArgs false in
set_option linter.unusedVariables false in
set_option maxRecDepth 100000 in
set_option maxHeartbeats 4000000 in
theorem yes_any {rb : Nat} {s : ByteArray} {a : Nat} {t : List UInt8} {d : Nat} {w : World} (h : Pr w rb s a t d) (hs : s.size ≤ 1000000000000) :
    Calls Tryz.prog 42 #[.pointer (some ⟨rb, 0, none⟩)] w (VWent rb s d w ((Ps.lit [116, 114, 117, 101] t).map fun _ => Ps.mkB true)) := by
  have HS0 := Lib.hid ((Sole.refl rb w).alloc (.cells zero8 28))
  have HZ := Lib.hid (Blk.new w 28 zero8)
  have HW := Lib.hid (word_any (h.on ((Below.refl _ _).alloc (Nat.le_refl _) (.cells zero8 28))) hs ⟨([116, 114, 117, 101] : List UInt8).toArray⟩ (by decide) (by decide))
  have hrb := h.lt
  clear h
  go_enter Tryz.func42, Tryz.ntmps42
  go_wp2_with fail
  refine HW.out.mono ?_
  cases hq : Ps.lit [116, 114, 117, 101] t with
  | ok v u =>
    rintro e w2 ⟨hS, ⟨x, rfl, hx⟩, a2, hP⟩
    have hx' : x = .tuple #[] := hx
    subst hx'
    have HR := Lib.hid (show (Ps.lit [116, 114, 117, 101] t).map (fun _ => Ps.mkB true) = .ok (Ps.mkB true) u by rw [hq]; rfl)
    have HS := Lib.hid (HS0.out.trans hS)
    have HZ2 := Lib.hid (hS.blk HZ.out (by omega))
    have HP := Lib.hid hP
    obtain ⟨z0, z1, z2, z3, z4, z5, z6, z7⟩ := HZ2.out.eight
    have zf := HZ2.out.frozen
    clear hS hP hx hq
    go_wp2_with fail
    have hfin := HZ2.out.set8 (.int .i64 1) (.bool true) (.bool false) (.string ⟨#[]⟩) (.int .i64 0) (.string ⟨#[]⟩) (.slice none 0 0) (.slice none 0 0)
    refine bodyPost_ret (results_row1 (l := [_, _, _, _, _, _, _, _]) rfl _ _ _ rfl hfin Tryz.underlying28 rfl (by kernel_rfl)) rfl ?_
    unfold VWent
    rw [HR.out]
    exact ⟨HS.out.set8 (Nat.le_refl _) _ _ _ _ _ _ _ _, ⟨_, rfl, leaf_in _ 1 true Nm.Num.zero []⟩, a2, HP.out.far (heap_set8 _ _ _ (by omega) _ _ _ _ _ _ _ _)⟩
  | bad c l =>
    rintro e w2 ⟨hS, g, p, h1, rfl, h2⟩
    have HFI := Lib.hid (show VWent rb s d w ((Ps.lit [116, 114, 117, 101] t).map fun _ => Ps.mkB true) (.panicked [{ v := .iface 52 (.agg #[.iface 47 (.pointer (some ⟨g, 0, none⟩))]), recovered := false }]) w2 by unfold VWent; rw [hq]; exact ⟨HS0.out.trans hS, g, p, h1, rfl, h2⟩)
    clear h1 h2 hS hq
    go_wp2_with fail
    exact ⟨rfl, HFI.out⟩

set_option linter.unusedSimpArgs false in
set_option linter.unusedVariables false in
set_option maxRecDepth 100000 in
set_option maxHeartbeats 4000000 in
theorem no_any {rb : Nat} {s : ByteArray} {a : Nat} {t : List UInt8} {d : Nat} {w : World} (h : Pr w rb s a t d) (hs : s.size ≤ 1000000000000) :
    Calls Tryz.prog 43 #[.pointer (some ⟨rb, 0, none⟩)] w (VWent rb s d w ((Ps.lit [102, 97, 108, 115, 101] t).map fun _ => Ps.mkB false)) := by
  have HS0 := Lib.hid ((Sole.refl rb w).alloc (.cells zero8 28))
  have HZ := Lib.hid (Blk.new w 28 zero8)
  have HW := Lib.hid (word_any (h.on ((Below.refl _ _).alloc (Nat.le_refl _) (.cells zero8 28))) hs ⟨([102, 97, 108, 115, 101] : List UInt8).toArray⟩ (by decide) (by decide))
  have hrb := h.lt
  clear h
  go_enter Tryz.func43, Tryz.ntmps43
  go_wp2_with fail
  refine HW.out.mono ?_
  cases hq : Ps.lit [102, 97, 108, 115, 101] t with
  | ok v u =>
    rintro e w2 ⟨hS, ⟨x, rfl, hx⟩, a2, hP⟩
    have hx' : x = .tuple #[] := hx
    subst hx'
    have HR := Lib.hid (show (Ps.lit [102, 97, 108, 115, 101] t).map (fun _ => Ps.mkB false) = .ok (Ps.mkB false) u by rw [hq]; rfl)
    have HS := Lib.hid (HS0.out.trans hS)
    have HZ2 := Lib.hid (hS.blk HZ.out (by omega))
    have HP := Lib.hid hP
    obtain ⟨z0, z1, z2, z3, z4, z5, z6, z7⟩ := HZ2.out.eight
    have zf := HZ2.out.frozen
    clear hS hP hx hq
    go_wp2_with fail
    have hfin := HZ2.out.set8 (.int .i64 1) (.bool false) (.bool false) (.string ⟨#[]⟩) (.int .i64 0) (.string ⟨#[]⟩) (.slice none 0 0) (.slice none 0 0)
    refine bodyPost_ret (results_row1 (l := [_, _, _, _, _, _, _, _]) rfl _ _ _ rfl hfin Tryz.underlying28 rfl (by kernel_rfl)) rfl ?_
    unfold VWent
    rw [HR.out]
    exact ⟨HS.out.set8 (Nat.le_refl _) _ _ _ _ _ _ _ _, ⟨_, rfl, leaf_in _ 1 false Nm.Num.zero []⟩, a2, HP.out.far (heap_set8 _ _ _ (by omega) _ _ _ _ _ _ _ _)⟩
  | bad c l =>
    rintro e w2 ⟨hS, g, p, h1, rfl, h2⟩
    have HFI := Lib.hid (show VWent rb s d w ((Ps.lit [102, 97, 108, 115, 101] t).map fun _ => Ps.mkB false) (.panicked [{ v := .iface 52 (.agg #[.iface 47 (.pointer (some ⟨g, 0, none⟩))]), recovered := false }]) w2 by unfold VWent; rw [hq]; exact ⟨HS0.out.trans hS, g, p, h1, rfl, h2⟩)
    clear h1 h2 hS hq
    go_wp2_with fail
    exact ⟨rfl, HFI.out⟩

set_option linter.unusedSimpArgs false in
set_option linter.unusedVariables false in
set_option maxRecDepth 100000 in
set_option maxHeartbeats 4000000 in
theorem quoted_any {rb : Nat} {s : ByteArray} {a : Nat} {t : List UInt8} {d : Nat} {w : World} (h : Pr w rb s a t d) (hs : s.size ≤ 1000000) (hT : TabsR rb w) :
    Calls Tryz.prog 45 #[.pointer (some ⟨rb, 0, none⟩)] w (VWent rb s d w ((Ps.qtext t).map Ps.mkS)) := by
  have HS0 := Lib.hid ((Sole.refl rb w).alloc (.cells zero8 28))
  have HZ := Lib.hid (Blk.new w 28 zero8)
  have HW := Lib.hid (runquote_any (h.on ((Below.refl _ _).alloc (Nat.le_refl _) (.cells zero8 28))) hs (hT.sole HS0.out))
  have hrb := h.lt
  clear h hT
  go_enter Tryz.func45, Tryz.ntmps45
  go_wp2_with fail
  refine HW.out.mono ?_
  cases hq : Ps.qtext t with
  | ok v u =>
    rintro e w2 ⟨hS, ⟨x, rfl, hx⟩, a2, hP⟩
    have hx' : x = .string ⟨v.toArray⟩ := hx
    subst hx'
    have HR := Lib.hid (show (Ps.qtext t).map Ps.mkS = .ok (Ps.mkS v) u by rw [hq]; rfl)
    have HS := Lib.hid (HS0.out.trans hS)
    have HZ2 := Lib.hid (hS.blk HZ.out (by omega))
    have HP := Lib.hid hP
    obtain ⟨z0, z1, z2, z3, z4, z5, z6, z7⟩ := HZ2.out.eight
    have zf := HZ2.out.frozen
    clear hS hP hx hq
    go_wp2_with fail
    have hfin := HZ2.out.set8 (.int .i64 3) (.bool false) (.bool false) (.string ⟨#[]⟩) (.int .i64 0) (.string ⟨v.toArray⟩) (.slice none 0 0) (.slice none 0 0)
    refine bodyPost_ret (results_row1 (l := [_, _, _, _, _, _, _, _]) rfl _ _ _ rfl hfin Tryz.underlying28 rfl (by kernel_rfl)) rfl ?_
    unfold VWent
    rw [HR.out]
    exact ⟨HS.out.set8 (Nat.le_refl _) _ _ _ _ _ _ _ _, ⟨_, rfl, leaf_in _ 3 false Nm.Num.zero v⟩, a2, HP.out.far (heap_set8 _ _ _ (by omega) _ _ _ _ _ _ _ _)⟩
  | bad c l =>
    rintro e w2 ⟨hS, g, p, h1, rfl, h2⟩
    have HFI := Lib.hid (show VWent rb s d w ((Ps.R.bad c l : Ps.R (List UInt8)).map Ps.mkS) (.panicked [{ v := .iface 52 (.agg #[.iface 47 (.pointer (some ⟨g, 0, none⟩))]), recovered := false }]) w2 by unfold VWent; exact ⟨HS0.out.trans hS, g, p, h1, rfl, h2⟩)
    clear h1 h2 hS hq
    go_wp2_with fail
    exact ⟨rfl, HFI.out⟩

end Go.Proofs.YtnnklbfpgmndoaaGreatDoor


