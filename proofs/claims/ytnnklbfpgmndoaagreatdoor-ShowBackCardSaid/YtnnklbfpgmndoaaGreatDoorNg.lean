/- Ng: Yf Yl, in one text. -/
import Derived.Test.YtnnklbfpgmndoaaGreatDoorYd
import Derived.Test.YtnnklbfpgmndoaaGreatDoorNf
import Derived.Test.YtnnklbfpgmndoaaGreatDoorYk
/- The program's parse: array. (By gen_member.py.) -/
namespace Go.Proofs.YtnnklbfpgmndoaaGreatDoor
open Go.RowKit Js

set_option linter.unusedSimpArgs false in
set_option linter.unusedVariables false in
set_option maxRecDepth 100000 in
set_option maxHeartbeats 8000000 in
theorem array_step (gg : Nat) (HVC : ∀ f', f' < gg → VCz f') : ArrC (gg + 1) := by
  intro rb s a u d w h hs hT hd hfu
  have HS0 := Lib.hid ((Sole.refl rb w).alloc (.cells zero8 28))
  have HZ := Lib.hid (Blk.new w 28 zero8)
  have HI := Lib.hid (itemsV_any gg HVC (h.on ((Below.refl _ _).alloc (Nat.le_refl _) (.cells zero8 28))) hs (hT.sole HS0.out) hd hfu)
  have hrb := h.lt
  have HRI := Lib.hid (Ps.arr_items gg d u)
  clear h hT
  go_enter Tryz.func46, Tryz.ntmps46
  go_wp2_with fail
  refine HI.out.mono ?_
  cases hq : Ps.itemsR Ps.oneV 93 gg d u with
  | ok l u2 =>
    rintro e w5 ⟨hS5, ⟨x, rfl, A, cp, rfl, hrow⟩, a5, hP5⟩
    have HR := Lib.hid (show Ps.arr (gg + 1) d u = .ok (Ps.mkA l) u2 by rw [HRI.out, hq]; rfl)
    have HS := Lib.hid (HS0.out.trans hS5)
    have HZ2 := Lib.hid (hS5.blk HZ.out (by omega))
    have HP := Lib.hid hP5
    have HX := Lib.hid (hrow.in_ (Nat.le_refl _))
    have hszx : (w.alloc (.cells zero8 28)).heap.size = w.heap.size + 1 := by simp
    obtain ⟨z0, z1', z2, z3, z4, z5, z6, z7⟩ := HZ2.out.eight
    have zf := HZ2.out.frozen
    clear hS5 hP5 hrow hq
    generalize l.length = n at HX ⊢
    go_wp2_with fail
    have hfin := HZ2.out.set8 (.int .i64 4) (.bool false) (.bool false) (.string ⟨#[]⟩) (.int .i64 0) (.string ⟨#[]⟩) (.slice A n cp) (.slice none 0 0)
    refine bodyPost_ret (results_row1 (l := [_, _, _, _, _, _, _, _]) rfl _ _ _ rfl hfin Tryz.underlying28 rfl (by kernel_rfl)) rfl ?_
    unfold VWent
    rw [HR.out]
    exact ⟨HS.out.set8 (Nat.le_refl _) _ _ _ _ _ _ _ _, ⟨_, rfl, in_set8 HX.out (by rw [hszx]; omega) (by rw [hszx]; omega) _ _ _ _ _ _ _ _⟩, a5, HP.out.far (heap_set8 _ _ _ (by omega) _ _ _ _ _ _ _ _)⟩
  | bad k l =>
    rintro e w5 ⟨hS5, g9, p, h1, rfl, h2⟩
    have HFI := Lib.hid (show VWent rb s d w (Ps.arr (gg + 1) d u) (.panicked [{ v := .iface 52 (.agg #[.iface 47 (.pointer (some ⟨g9, 0, none⟩))]), recovered := false }]) w5 by unfold VWent; rw [HRI.out, hq]; exact ⟨HS0.out.trans hS5, g9, p, h1, rfl, h2⟩)
    clear h1 h2 hS5 hq
    go_wp2_with fail
    exact ⟨rfl, HFI.out⟩

end Go.Proofs.YtnnklbfpgmndoaaGreatDoor

/- The program's parse: object. -/
namespace Go.Proofs.YtnnklbfpgmndoaaGreatDoor
open Go.RowKit Js

theorem sizeM_len (m : List Js.Mem) : m.length ≤ sizeM m := by
  induction m with
  | nil => exact Nat.le_refl _
  | cons p m ih =>
    obtain ⟨k, v⟩ := p
    have := size_pos v
    simp only [List.length_cons, sizeM, sizeP]; omega
theorem items_len {f d : Nat} {u : List UInt8} {l : List Js.Mem} {r : List UInt8} (hd : d ≤ 32) (h : Ps.itemsR Ps.oneM 125 f d u = .ok l r) : l.length ≤ u.length := by
  have h1 := (Ps.told (f + 1)).2.2.2.1 d u hd
  rw [Ps.obj_items, h] at h1
  have h2 := h1.2
  have h3 := sizeM_len (Ps.sortM l)
  have h4 := (Ps.sortM_perm l).length_eq
  simp only [Vl.size, sizeL] at h2
  omega

/-- The world in which an object is begun. -/
abbrev pobW (w : World) (rb : Nat) : World :=
  (((w.alloc (.cells #[.pointer (some ⟨rb, 0, none⟩)] 68)).alloc (.cells zero8 28)).alloc (.map #[] 0)).alloc (.cells #[.map (some (w.heap.size + 1 + 1))] 101)
theorem pobW_size (w : World) (rb : Nat) : (pobW w rb).heap.size = w.heap.size + 4 := by simp [pobW]
theorem pobW_below (w : World) (rb : Nat) : Below w.heap.size w (pobW w rb) := ((((Below.refl _ _).alloc (Nat.le_refl _) _).alloc (by simp) _).alloc (by simp; omega) _).alloc (by simp; omega) _
theorem pobW_r (w : World) (rb : Nat) : Blk (pobW w rb) w.heap.size 68 #[.pointer (some ⟨rb, 0, none⟩)] := (((Blk.new w _ _).alloc _).alloc _).alloc _
theorem pobW_z (w : World) (rb : Nat) : Blk (pobW w rb) (w.heap.size + 1) 28 zero8 := ((Blk.new2 w _ _ _).alloc _).alloc _
theorem pobW_m (w : World) (rb : Nat) : SeenAt (pobW w rb) (w.heap.size + 1 + 1) 0 (fun _ => false) := by
  have h := SeenAt.new ((w.alloc (.cells #[.pointer (some ⟨rb, 0, none⟩)] 68)).alloc (.cells zero8 28))
  simp only [World.size_alloc] at h
  exact h.far (Below.heap_alloc _ _ _ (by simp))
theorem pobW_s (w : World) (rb : Nat) : Blk (pobW w rb) (w.heap.size + 1 + 1 + 1) 101 #[.map (some (w.heap.size + 1 + 1))] := by
  have h := Blk.new (((w.alloc (.cells #[.pointer (some ⟨rb, 0, none⟩)] 68)).alloc (.cells zero8 28)).alloc (.map #[] 0)) 101 #[.map (some (w.heap.size + 1 + 1))]
  simp only [World.size_alloc] at h
  exact h

set_option linter.unusedSimpArgs false in
set_option linter.unusedVariables false in
set_option maxRecDepth 100000 in
set_option maxHeartbeats 8000000 in
theorem object_step (gg : Nat) (HVC : ∀ f', f' < gg → VCz f') : ObjC (gg + 1) := by
  intro rb s a u d w h hs hT hd hfu
  have hrb := h.lt
  have HRI := Lib.hid (Ps.obj_items gg d u)
  have hul : u.length ≤ s.size := by have := h.2.1; simp only [List.length_cons] at this; omega
  have HS0 := Lib.hid (Sole.of_below (rb := rb) (pobW_below w rb))
  have HZ := Lib.hid (pobW_z w rb)
  have HI := Lib.hid (itemsM_any gg HVC (h.on (pobW_below w rb)) hs (hT.sole HS0.out) hd hfu (pobW_m w rb) (by omega) (pobW_r w rb) (pobW_s w rb) (by omega) (by omega) (by omega) (by omega))
  have hszW := pobW_size w rb
  have hmk : ∀ W : World, (Instr.makeMap 101 none).run Tryz.prog W = .ok (.map (some W.heap.size)) (W.alloc (.map #[] 0)) := fun W => run_makeMap _ W
  clear h hT
  go_enter Tryz.func47, Tryz.ntmps47
  go_wp2_with fail
  refine HI.out.mono ?_
  cases hq : Ps.itemsR Ps.oneM 125 gg d u with
  | bad c l =>
    rintro e w5 ⟨hS5, g9, p, h1, rfl, h2⟩
    have HFI := Lib.hid (show VWent rb s d w (Ps.obj (gg + 1) d u) (.panicked [{ v := .iface 52 (.agg #[.iface 47 (.pointer (some ⟨g9, 0, none⟩))]), recovered := false }]) w5 by unfold VWent; rw [HRI.out, hq]; exact ⟨(HS0.out.two.trans hS5).one (by omega), g9, p, h1, rfl, h2⟩)
    clear h1 h2 hS5 hq hmk
    go_wp2_with fail
    exact ⟨rfl, HFI.out⟩
  | ok l u2 =>
    rintro e w5 ⟨hS5, ⟨A, cp, rfl, hrow⟩, hap, a5, hP5⟩
    have HSO := Lib.hid (sortM_any hrow hap (by have := items_len hd hq; omega))
    have HR := Lib.hid (show Ps.obj (gg + 1) d u = .ok (Ps.mkO (Ps.sortM l)) u2 by rw [HRI.out, hq]; rfl)
    have HS5 := Lib.hid ((HS0.out.two.trans hS5).one (by omega))
    have HZ5 := Lib.hid (hS5.blk HZ.out (by omega) (by omega))
    have HP5 := Lib.hid hP5
    have hsz5 := hS5.size
    clear hS5 hP5 hrow hap hq hmk
    generalize l.length = n at HSO ⊢
    go_wp2_with fail
    refine HSO.out.mono ?_
    rintro e w6 ⟨rfl, hB6, hx6⟩
    have HX := Lib.hid hx6
    have HS6 := Lib.hid (show Sole rb w w6 from ⟨hB6.os.trans HS5.out.os, hB6.tape.trans HS5.out.tape, hB6.output.trans HS5.out.output, Nat.le_trans HS5.out.size hB6.size, fun k hk hr => (hB6.block k (by omega)).trans (HS5.out.block k hk hr)⟩)
    have HZ6 := Lib.hid (HZ5.out.below hB6 (by omega))
    have HP6 := Lib.hid (HP5.out.far (hB6.block rb (by omega)))
    obtain ⟨z0, z1', z2, z3, z4, z5, z6, z7⟩ := HZ6.out.eight
    have zf := HZ6.out.frozen
    clear hB6 hx6
    go_wp2_with fail
    have hfin := HZ6.out.set8 (.int .i64 5) (.bool false) (.bool false) (.string ⟨#[]⟩) (.int .i64 0) (.string ⟨#[]⟩) (.slice none 0 0) (.slice A n cp)
    refine bodyPost_ret (results_row1 (l := [_, _, _, _, _, _, _, _]) rfl _ _ _ rfl hfin Tryz.underlying28 rfl (by kernel_rfl)) rfl ?_
    unfold VWent
    rw [HR.out]
    exact ⟨HS6.out.set8 (by omega) _ _ _ _ _ _ _ _, ⟨_, rfl, in_set8 HX.out (by omega) (by omega) _ _ _ _ _ _ _ _⟩, a5, HP6.out.far (heap_set8 _ _ _ (by omega) _ _ _ _ _ _ _ _)⟩

end Go.Proofs.YtnnklbfpgmndoaaGreatDoor


