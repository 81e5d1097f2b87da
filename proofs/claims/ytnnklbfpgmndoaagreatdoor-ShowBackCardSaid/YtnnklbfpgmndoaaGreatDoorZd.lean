/- The program's parse, fourth part: sign, end, word, unquote. -/
import Derived.Test.YtnnklbfpgmndoaaGreatDoorNa
import Derived.Test.YtnnklbfpgmndoaaGreatDoorMm
import Derived.Deep.RegionHeld3
namespace Go.Proofs.YtnnklbfpgmndoaaGreatDoor
open Go.RowKit Js

set_option linter.unusedSimpArgs false in
set_option linter.unusedVariables false in
set_option maxRecDepth 100000 in
set_option maxHeartbeats 4000000 in
theorem rsign_any {rb : Nat} {s : ByteArray} {a : Nat} {t : List UInt8} {d : Nat} {w : World} (h : Pr w rb s a t d) (hs : s.size ≤ 1000000000000) :
    Calls Tryz.prog 61 #[.pointer (some ⟨rb, 0, none⟩)] w (Went rb s d w (.ok () (Nm.unsgn t)) nil0) := by
  have H := Lib.hid h
  have HP0 := Lib.hid (here_any h hs)
  have hal := h.2.1
  obtain ⟨c0, c1, c2⟩ := h.1.three
  have hf := h.1.frozen
  cases t with
  | nil =>
    clear h hal
    simp only [hb] at HP0
    go_enter Tryz.func61, Tryz.ntmps61
    go_wp2_with fail
    refine HP0.out.mono ?_
    rintro e w1 ⟨rfl, n1, rfl⟩
    go_wp2_with fail
    go_end0
    exact ⟨(Sole.refl _ _).drewN _, ⟨_, rfl, rfl⟩, a, H.out.drewN _⟩
  | cons c v =>
    simp only [hb] at HP0
    simp only [List.length_cons] at hal
    have ha1 : a + 1 ≤ s.size := by omega
    have HSTEP := Lib.hid (fun n => (h.drewN n).step)
    by_cases h1 : c = 43
    · subst h1
      clear h hal
      go_enter Tryz.func61, Tryz.ntmps61
      go_wp2_with fail
      refine HP0.out.mono ?_
      rintro e w1 ⟨rfl, n1, rfl⟩
      go_wp2_with fail
      go_end0
      exact ⟨((Sole.refl _ _).drewN _).set _ _, ⟨_, rfl, rfl⟩, a + 1, HSTEP.out _⟩
    by_cases h2 : c = 45
    · subst h2
      clear h hal h1
      go_enter Tryz.func61, Tryz.ntmps61
      go_wp2_with fail
      refine HP0.out.mono ?_
      rintro e w1 ⟨rfl, n1, rfl⟩
      go_wp2_with fail
      go_end0
      exact ⟨((Sole.refl _ _).drewN _).set _ _, ⟨_, rfl, rfl⟩, a + 1, HSTEP.out _⟩
    have t1 : ((c.toNat : Int) == 43) = false := by
      rw [beq_eq_false_iff_ne]; intro e; exact h1 (UInt8.toNat_inj.1 (by show c.toNat = 43; omega))
    have t2 : ((c.toNat : Int) == 45) = false := by
      rw [beq_eq_false_iff_ne]; intro e; exact h2 (UInt8.toNat_inj.1 (by show c.toNat = 45; omega))
    have HU := Lib.hid (show Nm.unsgn (c :: v) = c :: v by simp [Nm.unsgn, h1, h2])
    clear h hal h1 h2
    go_enter Tryz.func61, Tryz.ntmps61
    go_wp2_with fail
    refine HP0.out.mono ?_
    rintro e w1 ⟨rfl, n1, rfl⟩
    go_wp2_with fail
    go_end0
    rw [HU.out]
    exact ⟨(Sole.refl _ _).drewN _, ⟨_, rfl, rfl⟩, a, H.out.drewN _⟩

def endR (t : List UInt8) : Ps.R Unit :=
  match Ps.skip t with
  | [] => .ok () []
  | c :: u => .bad 1 (c :: u).length

set_option linter.unusedSimpArgs false in
set_option linter.unusedVariables false in
set_option maxRecDepth 100000 in
set_option maxHeartbeats 4000000 in
theorem rend_any {rb : Nat} {s : ByteArray} {a : Nat} {t : List UInt8} {d : Nat} {w : World} (h : Pr w rb s a t d) (hs : s.size ≤ 1000000000000) :
    Calls Tryz.prog 17 #[.pointer (some ⟨rb, 0, none⟩)] w (Went rb s d w (endR t) nil0) := by
  have H := Lib.hid (next_any h hs)
  clear h
  go_enter Tryz.func17, Tryz.ntmps17
  go_wp2_with fail
  refine H.out.mono ?_
  rintro e w1 ⟨rfl, ⟨a1, hR⟩, hS⟩
  have HS := Lib.hid hS
  have HR := Lib.hid hR
  obtain ⟨c0, c1, c2⟩ := hR.1.three
  have hal := hR.2.1
  clear hS
  cases hq : Ps.skip t with
  | nil =>
    rw [hq] at hal HR
    have HPR := Lib.hid (show endR t = .ok () [] by unfold endR; rw [hq])
    have hlt : decide (a1 < s.size) = false := by simp at hal; simp; omega
    clear hR hal hq
    go_wp2_with fail
    go_quiet (fail)
    go_wp2_with fail
    go_end0
    rw [HPR.out]
    exact ⟨HS.out.drewN _, ⟨_, rfl, rfl⟩, a1, HR.out.drewN _⟩
  | cons c u =>
    rw [hq] at hal
    have HPR := Lib.hid (show endR t = .bad 1 (c :: u).length by unfold endR; rw [hq])
    have HF := Lib.hid (fun n => pfail_any s a1 1 (c :: u).length (a1 : Int) 1 rfl rfl hal (w1.drewN n))
    have hlt : decide (a1 < s.size) = true := by simp at hal; simp; omega
    clear hR hal hq
    go_wp2_with fail
    go_quiet (fail)
    go_wp2_with fail
    refine (HF.out _).mono ?_
    rintro e w2 ⟨⟨g, p, h1, rfl, h2⟩, hb2⟩
    have HFI := Lib.hid (show Went rb s d w (endR t) nil0 (.panicked [{ v := .iface 52 (.agg #[.iface 47 (.pointer (some ⟨g, 0, none⟩))]), recovered := false }]) w2 by rw [HPR.out]; exact ⟨(HS.out.drewN _).trans (.of_below hb2), g, p, h1, rfl, h2⟩)
    clear h1 h2 hb2
    go_wp2_with fail
    exact ⟨rfl, HFI.out⟩

/-- The tables lie ahead of the reader. -/
def TabsR (rb : Nat) (w : World) : Prop := Tabs w ∧ 2 < rb ∧ 3 < rb
theorem TabsR.sole {rb : Nat} {w w' : World} (h : TabsR rb w) (hS : Sole rb w w') : TabsR rb w' := by
  obtain ⟨hT, h1, h2⟩ := h
  have hl := hT.lt
  refine ⟨?_, h1, h2⟩
  exact hT.keep (hS.below (B := max 2 3 + 1) (by omega) (by omega)) (by omega) (by omega)

/-- It hands a text back. -/
def text0 (o : List UInt8) (x : Value) (_ : World) : Prop := x = .string ⟨o.toArray⟩

def PrAt (rb : Nat) (s : ByteArray) (a d : Nat) (w w' : World) : Prop :=
  (w'.cell? ⟨rb, 0, none⟩ = some (.string s) ∧ w'.cell? ⟨rb, 1, none⟩ = some (.int .i64 a) ∧ w'.cell? ⟨rb, 2, none⟩ = some (.int .i64 d)) ∧ Below w.heap.size w w'
theorem PrAt.on {rb : Nat} {s : ByteArray} {a d : Nat} {w W w1 : World} (h : PrAt rb s a d w W) (hb : Below W.heap.size W w1) : PrAt rb s a d w w1 := by
  obtain ⟨⟨h0, h1, h2⟩, hB⟩ := h
  have hl := World.block_lt_of_cell? W _ h0
  have hc : ∀ j, w1.cell? ⟨rb, j, none⟩ = W.cell? ⟨rb, j, none⟩ := fun j => hb.cell (p := ⟨rb, j, none⟩) hl
  exact ⟨⟨(hc 0).trans h0, (hc 1).trans h1, (hc 2).trans h2⟩, hB.trans (hb.mono hB.size)⟩

set_option linter.unusedSimpArgs false in
set_option linter.unusedVariables false in
set_option maxRecDepth 100000 in
set_option maxHeartbeats 4000000 in
theorem runquote_any {rb : Nat} {s : ByteArray} {a : Nat} {t : List UInt8} {d : Nat} {w : World} (h : Pr w rb s a t d) (hs : s.size ≤ 1000000) (hT : TabsR rb w) :
    Calls Tryz.prog 63 #[.pointer (some ⟨rb, 0, none⟩)] w (Went rb s d w (Ps.qtext t) text0) := by
  obtain ⟨c0, c1, c2⟩ := h.1.three
  have hal := h.2.1
  have H := Lib.hid h
  have HT := Lib.hid hT.1
  have hu := Ps.qtext_unq s.data.toList a t h.2.2 (by rw [← Lib.size_eq]; exact hal)
  have HU := Lib.hid (fun W hT => unquote_any s (a : Int) W hs (by omega) (by omega) hT)
  have ht0 : PrAt rb s a d w w.drew := ⟨⟨c0, c1, c2⟩, (Below.refl _ _).drew⟩
  have HT0 := Lib.hid ht0
  have hal2 : a ≤ s.size := by omega
  clear h hT hal
  cases hq : Ps.qtext t with
  | ok k u =>
    rw [hq] at hu
    obtain ⟨n, hun, h1, h2, h3, h4⟩ := hu
    have HC := Lib.hid (fun W hT => show Calls Tryz.prog 81 #[.string s, .int .i64 (a : Int)] W fun e w' => e = .returned (.tuple #[.string ⟨k.toArray⟩, .int .i64 n, .nilIface]) ∧ Below W.heap.size W w' from (HU.out W hT).mono (by
      rw [hun]
      rintro e w' (⟨_, rfl, hb⟩ | ⟨hc, _⟩)
      · exact ⟨rfl, hb⟩
      · exfalso; rcases hc with hc | hc <;> cases hc))
    have hn : a + n ≤ s.size := by rw [Lib.size_eq]; omega
    have HE := Lib.hid (show a + n + u.length = s.size ∧ s.data.toList.drop (a + n) = u from ⟨by rw [Lib.size_eq]; exact h1, h2⟩)
    clear hun hq h1 h2 h3 h4 HU
    go_enter Tryz.func63, Tryz.ntmps63
    go_wp2_with fail
    go_region_held3 (fun w' => (w'.cell? ⟨rb, 0, none⟩ = some (.string s) ∧ w'.cell? ⟨rb, 1, none⟩ = some (.int .i64 a) ∧ w'.cell? ⟨rb, 2, none⟩ = some (.int .i64 d)) ∧ Below w.heap.size w w')
      ((show PrAt rb s a d w _; first | (with_reducible exact ht) | (with_reducible exact HT0.out)))
      (first | (go_at_call 81; refine (HC.out _ (by have hp : PrAt rb s a d w _ := (by with_reducible first | exact ht | exact HT0.out); exact HT.out.on hp.2)).mono ?_; rintro e w2 ⟨rfl, hb2⟩; have ht := PrAt.on (rb := rb) (s := s) (a := a) (d := d) (w := w) (by with_reducible first | exact ht | exact HT0.out) hb2; clear hb2))
    have hbl := ht.2
    have HR := Lib.hid (H.out.on hbl)
    have HS := Lib.hid (Sole.of_below (rb := rb) hbl)
    clear ht0 c0 c1 c2
    obtain ⟨⟨c0, c1, c2⟩, _⟩ := ht
    have hf := HR.out.1.frozen
    clear hbl
    go_wp2_with fail
    go_ret
    exact ⟨HS.out.set _ _, ⟨_, rfl, rfl⟩, a + n, HR.out.at (by omega) HE.out.1 HE.out.2⟩
  | bad k l =>
    rw [hq] at hu
    obtain ⟨p, hun, h1, h2, h3⟩ := hu
    have HC := Lib.hid (fun W hT => show Calls Tryz.prog 81 #[.string s, .int .i64 (a : Int)] W fun e w' => ∃ b, e = .returned (.tuple #[.string ⟨#[]⟩, .int .i64 0, spotV b]) ∧ SpotAt w' b (p : Int) (k : Int) ∧ Below W.heap.size W w' from (HU.out W hT).mono (by
      rw [hun]
      rintro e w' (⟨hc, _⟩ | ⟨_, _, _, b, hb1, hb2, hb3, hb4⟩)
      · exfalso; rcases h1 with rfl | rfl <;> cases hc
      · exact ⟨b, hb1, hb3, hb4⟩))
    have HE := Lib.hid (show p + l = s.size by rw [Lib.size_eq]; exact h2)
    clear hun hq h1 h2 h3 HU
    go_enter Tryz.func63, Tryz.ntmps63
    go_wp2_with fail
    go_region_held3 (fun w' => (w'.cell? ⟨rb, 0, none⟩ = some (.string s) ∧ w'.cell? ⟨rb, 1, none⟩ = some (.int .i64 a) ∧ w'.cell? ⟨rb, 2, none⟩ = some (.int .i64 d)) ∧ Below w.heap.size w w')
      ((show PrAt rb s a d w _; first | (with_reducible exact ht) | (with_reducible exact HT0.out)))
      (first | (go_at_call 81; refine (HC.out _ (by have hp : PrAt rb s a d w _ := (by with_reducible first | exact ht | exact HT0.out); exact HT.out.on hp.2)).mono ?_; rintro e w2 ⟨b, rfl, hsp, hb2⟩; have HSP := Lib.hid hsp; clear hsp; have ht := PrAt.on (rb := rb) (s := s) (a := a) (d := d) (w := w) (by with_reducible first | exact ht | exact HT0.out) hb2; clear hb2))
    have hbl := ht.2
    have HS := Lib.hid (Sole.of_below (rb := rb) hbl)
    clear ht0 c0 c1 c2 ht hbl
    go_wp2_with fail
    exact ⟨rfl, HS.out, b, p, HE.out, rfl, HSP.out⟩

end Go.Proofs.YtnnklbfpgmndoaaGreatDoor

