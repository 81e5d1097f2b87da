/- Na: Za Zb Zc, in one text. -/
import Derived.Test.YtnnklbfpgmndoaaGreatDoorMl
import Derived.Test.YtnnklbfpgmndoaaGreatDoorQa
import Derived.Deep.Draws
/- The program's parse, first part: the reader; here, fail, isBlank, isDigit. -/
namespace Go.Proofs.YtnnklbfpgmndoaaGreatDoor
open Go.RowKit Js

/-- The program's reader: in block rb, at the rest t of the text s, so deep. -/
def Pr (w : World) (rb : Nat) (s : ByteArray) (a : Nat) (t : List UInt8) (d : Nat) : Prop :=
  Blk w rb 54 #[.string s, .int .i64 a, .int .i64 d] ∧ a + t.length = s.size ∧ s.data.toList.drop a = t
theorem Pr.drewN {w : World} {rb : Nat} {s : ByteArray} {a : Nat} {t : List UInt8} {d : Nat} (h : Pr w rb s a t d) (n : Nat) : Pr (w.drewN n) rb s a t d := h
theorem Pr.lt {w : World} {rb : Nat} {s : ByteArray} {a : Nat} {t : List UInt8} {d : Nat} (h : Pr w rb s a t d) : rb < w.heap.size := h.1.lt
theorem Pr.on {w w' : World} {rb : Nat} {s : ByteArray} {a : Nat} {t : List UInt8} {d : Nat} (h : Pr w rb s a t d) (hb : Below w.heap.size w w') : Pr w' rb s a t d := ⟨h.1.on hb, h.2.1, h.2.2⟩
theorem Blk.three {w : World} {g : Nat} {t : TypeId} {c0 c1 c2 : Value} (h : Blk w g t #[c0, c1, c2]) :
    w.cell? ⟨g, 0, none⟩ = some c0 ∧ w.cell? ⟨g, 1, none⟩ = some c1 ∧ w.cell? ⟨g, 2, none⟩ = some c2 := ⟨h.cell 0, h.cell 1, h.cell 2⟩
theorem Pr.at {w : World} {rb : Nat} {s : ByteArray} {a : Nat} {t : List UInt8} {d : Nat} (h : Pr w rb s a t d) {a' : Nat} {t' : List UInt8} {x : Int} (hx : x = (a' : Int)) (h1 : a' + t'.length = s.size) (h2 : s.data.toList.drop a' = t') : Pr (w.setCell ⟨rb, 1, none⟩ (.int .i64 x)) rb s a' t' d := by
  subst hx
  exact ⟨Blk.setL (l := [.string s, .int .i64 a, .int .i64 d]) h.1 1 _, h1, h2⟩
theorem Pr.step {w : World} {rb : Nat} {s : ByteArray} {a : Nat} {c : UInt8} {u : List UInt8} {d : Nat} (h : Pr w rb s a (c :: u) d) : Pr (w.setCell ⟨rb, 1, none⟩ (.int .i64 ((a : Int) + 1))) rb s (a + 1) u d :=
  h.at rfl (by have := h.2.1; simp only [List.length_cons] at this; omega) (by rw [← List.drop_drop, h.2.2]; rfl)
theorem Pr.deep {w : World} {rb : Nat} {s : ByteArray} {a : Nat} {t : List UInt8} {d : Nat} (h : Pr w rb s a t d) (d' : Nat) : Pr (w.setCell ⟨rb, 2, none⟩ (.int .i64 d')) rb s a t d' :=
  ⟨Blk.setL (l := [.string s, .int .i64 a, .int .i64 d]) h.1 2 _, h.2.1, h.2.2⟩

/-- The byte that is read next, 0 at the end. -/
def hb : List UInt8 → Int
  | [] => 0
  | c :: _ => (c.toNat : Int)

/-- It ends in the panic of an error of number c, l bytes ahead of the text's end. -/
def Ami (s : ByteArray) (c l : Nat) (e : Ending) (w' : World) : Prop :=
  ∃ g p : Nat, p + l = s.size ∧ e = .panicked [{ v := .iface 52 (.agg #[.iface 47 (.pointer (some ⟨g, 0, none⟩))]), recovered := false }] ∧ SpotAt w' g p c

set_option linter.unusedSimpArgs false in
set_option maxRecDepth 100000 in
set_option maxHeartbeats 2000000 in
theorem here_any {rb : Nat} {s : ByteArray} {a : Nat} {t : List UInt8} {d : Nat} {w : World} (h : Pr w rb s a t d) (_hs : s.size ≤ 1000000000000) :
    Calls Tryz.prog 49 #[.pointer (some ⟨rb, 0, none⟩)] w fun e w' => e = .returned (.int .u8 (hb t)) ∧ ∃ n, w' = w.drewN n := by
  obtain ⟨hB, hl, hd⟩ := h
  obtain ⟨c0, c1, c2⟩ := hB.three
  cases t with
  | nil =>
    have ht : ((a : Int) == (s.size : Int)) = true := by simp at hl; simp [hl]
    clear hB hd
    go_enter Tryz.func49, Tryz.ntmps49
    go_wp2_with fail
    go_quiet (fail)
    go_wp2_with fail
    go_ret
    exact ⟨rfl, _, rfl⟩
  | cons c u =>
    simp only [List.length_cons] at hl
    have ht : ((a : Int) == (s.size : Int)) = false := by simp; omega
    have hlt : a < s.size := by omega
    have hix : s[a]'hlt = c := by
      have h2 : (s.data.toList.drop a)[0]? = some c := by rw [hd]; rfl
      rw [List.getElem?_drop] at h2
      have h3 := (List.getElem?_eq_some_iff.1 h2).2
      exact h3
    have HIX := Lib.hid hix
    clear hB hd hix
    go_enter Tryz.func49, Tryz.ntmps49
    go_wp2_with fail
    go_quiet (fail)
    go_wp2_with fail
    go_quiet (fail)
    go_wp2_with fail
    go_ret
    refine ⟨?_, _, World.drewN_drewN _ _ _⟩
    show Ending.returned (.int .u8 ((s[a]'hlt).toNat : Int)) = _
    rw [HIX.out]
    rfl

set_option linter.unusedSimpArgs false in
set_option maxRecDepth 100000 in
set_option maxHeartbeats 2000000 in
theorem pfail_any (s : ByteArray) (p c l : Nat) (pi ci : Int) (hpi : pi = (p : Int)) (hci : ci = (c : Int)) (hp : p + l = s.size) (w : World) :
    Calls Tryz.prog 25 #[.int .i64 pi, .int .i64 ci] w fun e w' => Ami s c l e w' ∧ Below w.heap.size w w' := by
  subst hpi hci
  go_enter Tryz.func25, Tryz.ntmps25
  go_wp2_with fail
  have hB := Blk.new w 50 #[.int .i64 p, .int .i64 c]
  exact ⟨rfl, ⟨w.heap.size, p, hp, rfl, hB.cell 0, hB.cell 1⟩, (Below.refl _ _).alloc (Nat.le_refl _) _⟩

set_option maxRecDepth 100000 in
set_option maxHeartbeats 2000000 in
theorem isBlank_any (c : Int) (w : World) : Calls Tryz.prog 48 #[.int .u8 c] w fun e w' => e = .returned (.bool (decide (c = 32) || decide (c = 9) || decide (c = 10) || decide (c = 13))) ∧ w = w' := by
  by_cases h1 : c = 32
  · subst h1
    go_enter Tryz.func48, Tryz.ntmps48
    go_wp2
    go_ret
    exact ⟨rfl, rfl⟩
  by_cases h2 : c = 9
  · subst h2
    go_enter Tryz.func48, Tryz.ntmps48
    go_wp2
    go_ret
    exact ⟨rfl, rfl⟩
  by_cases h3 : c = 10
  · subst h3
    go_enter Tryz.func48, Tryz.ntmps48
    go_wp2
    go_ret
    exact ⟨rfl, rfl⟩
  by_cases h4 : c = 13
  · subst h4
    go_enter Tryz.func48, Tryz.ntmps48
    go_wp2
    go_ret
    exact ⟨rfl, rfl⟩
  have t1 : (c == 32) = false := by simpa using h1
  have t2 : (c == 9) = false := by simpa using h2
  have t3 : (c == 10) = false := by simpa using h3
  have t4 : (c == 13) = false := by simpa using h4
  have HF := Lib.hid (show (decide (c = 32) || decide (c = 9) || decide (c = 10) || decide (c = 13)) = false by simp [h1, h2, h3, h4])
  clear h1 h2 h3 h4
  go_enter Tryz.func48, Tryz.ntmps48
  go_wp2
  go_ret
  exact ⟨by rw [HF.out]; rfl, rfl⟩

/-- Is a byte a digit? -/
def dgB (c : Int) : Bool := decide (48 ≤ c) && decide (c ≤ 57)
set_option maxRecDepth 100000 in
set_option maxHeartbeats 2000000 in
theorem isDigit_any (c : Int) (w : World) : Calls Tryz.prog 77 #[.int .u8 c] w fun e w' => e = .returned (.bool (dgB c)) ∧ w = w' := by
  by_cases h1 : 48 ≤ c
  · by_cases h2 : c ≤ 57
    · have HF := Lib.hid (show dgB c = true by simp [dgB, h1, h2])
      go_enter Tryz.func77, Tryz.ntmps77
      go_wp2
      go_ret
      exact ⟨by rw [HF.out]; simp, rfl⟩
    · have HF := Lib.hid (show dgB c = false by simp [dgB, h2])
      go_enter Tryz.func77, Tryz.ntmps77
      go_wp2
      go_ret
      exact ⟨by rw [HF.out]; simp, rfl⟩
  · have HF := Lib.hid (show dgB c = false by simp [dgB, h1])
    have t1 : decide (48 ≤ c) = false := by simp [h1]
    go_enter Tryz.func77, Tryz.ntmps77
    go_wp2
    go_ret
    exact ⟨by rw [HF.out]; rfl, rfl⟩

end Go.Proofs.YtnnklbfpgmndoaaGreatDoor

/- The program's parse, second part: next, pass, end, digits, sign. -/
namespace Go.Proofs.YtnnklbfpgmndoaaGreatDoor
open Go.RowKit Js

theorem blank_int (c : UInt8) : (decide ((c.toNat : Int) = 32) || decide ((c.toNat : Int) = 9) || decide ((c.toNat : Int) = 10) || decide ((c.toNat : Int) = 13)) = Ps.blank c := by
  have e : ∀ k : UInt8, decide ((c.toNat : Int) = (k.toNat : Int)) = decide (c = k) := fun k => by
    rw [Bool.eq_iff_iff, decide_eq_true_eq, decide_eq_true_eq]
    constructor
    · intro h; exact UInt8.toNat_inj.1 (by omega)
    · rintro rfl; rfl
  unfold Ps.blank
  rw [← e 32, ← e 9, ← e 10, ← e 13]
  rfl
theorem dig_int (c : UInt8) : dgB (c.toNat : Int) = Nm.dig c := by
  unfold Nm.dig dgB
  rw [Bool.eq_iff_iff]
  simp
  omega

/-- What next tells: blanks are gone over, and the byte behind them. -/
def Nexted (rb : Nat) (s : ByteArray) (t : List UInt8) (d : Nat) (w : World) (e : Ending) (w' : World) : Prop :=
  e = .returned (.int .u8 (hb (Ps.skip t))) ∧ (∃ a, Pr w' rb s a (Ps.skip t) d) ∧ Sole rb w w'
def Nexting (rb : Nat) (s : ByteArray) (t : List UInt8) (d : Nat) (w : World) (k : Nat) (wr : World) : Prop :=
  ∃ a u, Pr wr rb s a u d ∧ u.length = k ∧ Ps.skip u = Ps.skip t ∧ Sole rb w wr

set_option linter.unusedSimpArgs false in
set_option maxRecDepth 100000 in
set_option maxHeartbeats 4000000 in
theorem next_any {rb : Nat} {s : ByteArray} {a : Nat} {t : List UInt8} {d : Nat} {w : World} (h : Pr w rb s a t d) (hs : s.size ≤ 1000000000000) :
    Calls Tryz.prog 24 #[.pointer (some ⟨rb, 0, none⟩)] w (Nexted rb s t d w) := by
  have H := Lib.hid h
  clear h
  go_enter Tryz.func24, Tryz.ntmps24
  go_wp2_with fail
  go_loopg [] t.length (Nexting rb s t d w)
  case atStart => exact ⟨a, t, H.out, rfl, rfl, .refl _ _⟩
  case round =>
    obtain ⟨a1, u, hR, hk, hsk, hW⟩ := hrel
    have HR := Lib.hid hR
    have HK := Lib.hid hk
    have HSK := Lib.hid hsk
    have HW := Lib.hid hW
    clear hR hk hsk hW
    have HP := Lib.hid (fun n => here_any (HR.out.drewN n) hs)
    have HP0 := Lib.hid (here_any HR.out hs)
    cases u with
    | nil =>
      have hbl : (decide ((0 : Int) = 32) || decide ((0 : Int) = 9) || decide ((0 : Int) = 10) || decide ((0 : Int) = 13)) = false := by decide
      simp only [hb] at HP HP0
      go_wp2_with fail
      refine HP0.out.mono ?_
      rintro e w1 ⟨rfl, n1, rfl⟩
      go_wp2_with fail
      refine (isBlank_any _ _).mono ?_
      rw [hbl]
      rintro e w1 ⟨rfl, rfl⟩
      go_wp2_with fail
      refine (HP.out _).mono ?_
      rintro e w1 ⟨rfl, n2, rfl⟩
      go_wp2_with fail
      go_ret
      refine ⟨by rw [← HSK.out]; rfl, ⟨a1, ?_⟩, ?_⟩
      · rw [← HSK.out]; exact HR.out
      · exact HW.out.drewN _
    | cons c v =>
      simp only [List.length_cons] at HK
      simp only [hb] at HP HP0
      have ha1 : a1 + (v.length + 1) = s.size := by have := HR.out.2.1; simpa using this
      obtain ⟨c0, c1, c2⟩ := HR.out.1.three
      have hf := HR.out.1.frozen
      have HSTEP := Lib.hid (fun n => (HR.out.drewN n).step)
      have HB := Lib.hid (blank_int c)
      by_cases hbk : Ps.blank c = true
      · have HSK2 := Lib.hid (show Ps.skip v = Ps.skip t from by rw [← HSK.out, Ps.skip_cons, if_pos hbk])
        rw [hbk] at HB
        clear hbk
        go_wp2_with fail
        refine HP0.out.mono ?_
        rintro e w1 ⟨rfl, n1, rfl⟩
        go_wp2_with fail
        refine (isBlank_any _ _).mono ?_
        rw [HB.out]
        rintro e w1 ⟨rfl, rfl⟩
        go_wp2_with fail
        go_roundg v.length
        case rel => exact ⟨a1 + 1, v, HSTEP.out _, rfl, HSK2.out, (HW.out.drewN _).set _ _⟩
        case measure => have := HK.out; omega
      · have hbk' : Ps.blank c = false := by simpa using hbk
        have HSK2 := Lib.hid (show Ps.skip t = c :: v from by rw [← HSK.out, Ps.skip_cons, if_neg hbk])
        rw [hbk'] at HB
        clear hbk hbk'
        go_wp2_with fail
        refine HP0.out.mono ?_
        rintro e w1 ⟨rfl, n1, rfl⟩
        go_wp2_with fail
        refine (isBlank_any _ _).mono ?_
        rw [HB.out]
        rintro e w1 ⟨rfl, rfl⟩
        go_wp2_with fail
        refine (HP.out _).mono ?_
        rintro e w1 ⟨rfl, n2, rfl⟩
        go_wp2_with fail
        go_ret
        refine ⟨by rw [HSK2.out]; rfl, ⟨a1, ?_⟩, ?_⟩
        · rw [HSK2.out]; exact HR.out
        · exact HW.out.drewN _

/-- What a function of the reader comes to: it goes on, or ends all reading. -/
def Went {α : Type} (rb : Nat) (s : ByteArray) (d : Nat) (w : World) (r : Ps.R α) (ret : α → Value → World → Prop) (e : Ending) (w' : World) : Prop :=
  Sole rb w w' ∧ (match r with
    | .ok v u => (∃ x, e = .returned x ∧ ret v x w') ∧ ∃ a, Pr w' rb s a u d
    | .bad c l => Ami s c l e w')
/-- It hands nothing back. -/
def nil0 (_ : Unit) (x : Value) (_ : World) : Prop := x = .tuple #[]
def passR (c : UInt8) (t : List UInt8) : Ps.R Unit :=
  match Ps.skip t with
  | [] => .bad 1 0
  | b :: u => if b = c then .ok () u else .bad 1 (b :: u).length
def digitsR (t : List UInt8) : Ps.R Unit := if Nm.pre t = [] then .bad 1 t.length else .ok () (Nm.suf t)

theorem Ami.on {s : ByteArray} {c l : Nat} {e : Ending} {w w' : World} (h : Ami s c l e w) (hb : Below w.heap.size w w') : Ami s c l e w' := by
  obtain ⟨g, p, h1, h2, h3, h4⟩ := h
  have hl := World.block_lt_of_cell? w _ h3
  exact ⟨g, p, h1, h2, (hb.cell (p := ⟨g, 0, none⟩) hl).trans h3, (hb.cell (p := ⟨g, 1, none⟩) hl).trans h4⟩

set_option linter.unusedSimpArgs false in
set_option maxRecDepth 100000 in
set_option maxHeartbeats 4000000 in
theorem pass_any {rb : Nat} {s : ByteArray} {a : Nat} {t : List UInt8} {d : Nat} {w : World} (h : Pr w rb s a t d) (hs : s.size ≤ 1000000000000) (c : UInt8) (k : Int) (hk : k = (c.toNat : Int)) (hc : c ≠ 0) :
    Calls Tryz.prog 82 #[.pointer (some ⟨rb, 0, none⟩), .int .u8 k] w (Went rb s d w (passR c t) nil0) := by
  have H := Lib.hid (next_any h hs)
  clear h
  go_enter Tryz.func82, Tryz.ntmps82
  go_wp2_with fail
  refine H.out.mono ?_
  rintro e w1 ⟨rfl, ⟨a1, hR⟩, hS⟩
  have HS := Lib.hid hS
  clear hS
  cases hq : Ps.skip t with
  | nil =>
    rw [hq] at hR
    have hl := hR.2.1
    simp only [List.length_nil, Nat.add_zero] at hl
    have hne : ((0 : Int) != k) = true := by
      rw [hk, bne_iff_ne]
      intro e
      exact hc (UInt8.toNat_inj.1 (by show c.toNat = 0; omega))
    obtain ⟨c0, c1, c2⟩ := hR.1.three
    have HPR := Lib.hid (show passR c t = .bad 1 0 by unfold passR; rw [hq])
    have HF := Lib.hid (pfail_any s a1 1 0 (a1 : Int) 1 rfl rfl (by omega) w1)
    clear hq hR hk hc hl
    simp only [hb]
    go_wp2_with fail
    refine HF.out.mono ?_
    rintro e w2 ⟨⟨g, p, h1, rfl, h2⟩, hb2⟩
    have HFI := Lib.hid (show Went rb s d w (passR c t) nil0 (.panicked [{ v := .iface 52 (.agg #[.iface 47 (.pointer (some ⟨g, 0, none⟩))]), recovered := false }]) w2 by rw [HPR.out]; exact ⟨HS.out.trans (.of_below hb2), g, p, h1, rfl, h2⟩)
    clear h1 h2 hb2
    go_wp2_with fail
    exact ⟨rfl, HFI.out⟩
  | cons b u =>
    rw [hq] at hR
    simp only [hb]
    obtain ⟨c0, c1, c2⟩ := hR.1.three
    have hf := hR.1.frozen
    have hl := hR.2.1
    simp only [List.length_cons] at hl
    have hl2 : a1 + 1 ≤ s.size := by omega
    have HSTEP := Lib.hid hR.step
    by_cases hbc : b = c
    · subst hbc
      have hne : ((b.toNat : Int) != k) = false := by rw [hk]; simp
      have HPR := Lib.hid (show passR b t = .ok () u by unfold passR; rw [hq]; simp)
      clear hq hR hc hk hl
      go_wp2_with fail
      go_end0
      rw [HPR.out]
      exact ⟨HS.out.set _ _, ⟨_, rfl, rfl⟩, _, HSTEP.out⟩
    · have hne : ((b.toNat : Int) != k) = true := by
        rw [hk, bne_iff_ne]
        intro e
        exact hbc (UInt8.toNat_inj.1 (by omega))
      have HPR := Lib.hid (show passR c t = .bad 1 (b :: u).length by unfold passR; rw [hq]; simp [hbc])
      have HF := Lib.hid (pfail_any s a1 1 (u.length + 1) (a1 : Int) 1 rfl rfl (by omega) w1)
      clear hq hR hk hc hbc hl
      go_wp2_with fail
      refine HF.out.mono ?_
      rintro e w2 ⟨⟨g, p, h1, rfl, h2⟩, hb2⟩
      have HFI := Lib.hid (show Went rb s d w (passR c t) nil0 (.panicked [{ v := .iface 52 (.agg #[.iface 47 (.pointer (some ⟨g, 0, none⟩))]), recovered := false }]) w2 by rw [HPR.out]; exact ⟨HS.out.trans (.of_below hb2), g, p, h1, rfl, h2⟩)
      clear h1 h2 hb2
      go_wp2_with fail
      exact ⟨rfl, HFI.out⟩

end Go.Proofs.YtnnklbfpgmndoaaGreatDoor

/- The program's parse, third part: sign, digits. -/
namespace Go.Proofs.YtnnklbfpgmndoaaGreatDoor
open Go.RowKit Js

theorem suf_nil : Nm.suf [] = [] := rfl
theorem suf_dig {c : UInt8} {v : List UInt8} (h : Nm.dig c = true) : Nm.suf (c :: v) = Nm.suf v := by
  unfold Nm.suf; rw [List.dropWhile_cons_of_pos h]
theorem suf_not {c : UInt8} {v : List UInt8} (h : Nm.dig c = false) : Nm.suf (c :: v) = c :: v := by
  unfold Nm.suf; rw [List.dropWhile_cons_of_neg (by simp [h])]
theorem pre_nil : Nm.pre [] = [] := rfl
theorem pre_dig {c : UInt8} {v : List UInt8} (h : Nm.dig c = true) : Nm.pre (c :: v) ≠ [] := by
  unfold Nm.pre; rw [List.takeWhile_cons_of_pos h]; simp
theorem pre_not {c : UInt8} {v : List UInt8} (h : Nm.dig c = false) : Nm.pre (c :: v) = [] := by
  unfold Nm.pre; rw [List.takeWhile_cons_of_neg (by simp [h])]
theorem dgB_zero : dgB 0 = false := by decide

def Digiting (rb : Nat) (s : ByteArray) (t : List UInt8) (d : Nat) (w : World) (k : Nat) (wr : World) : Prop :=
  ∃ a u, Pr wr rb s a u d ∧ u.length = k ∧ Nm.suf u = Nm.suf t ∧ Sole rb w wr

set_option linter.unusedSimpArgs false in
set_option linter.unusedVariables false in
set_option maxRecDepth 100000 in
set_option maxHeartbeats 4000000 in
theorem digits_any {rb : Nat} {s : ByteArray} {a : Nat} {t : List UInt8} {d : Nat} {w : World} (h : Pr w rb s a t d) (hs : s.size ≤ 1000000000000) :
    Calls Tryz.prog 60 #[.pointer (some ⟨rb, 0, none⟩)] w (Went rb s d w (digitsR t) nil0) := by
  have H := Lib.hid h
  have hal := h.2.1
  have HP0 := Lib.hid (here_any h hs)
  obtain ⟨c0, c1, c2⟩ := h.1.three
  by_cases hp : Nm.pre t = []
  · have HPR := Lib.hid (show digitsR t = .bad 1 t.length by unfold digitsR; rw [if_pos hp])
    have HD := Lib.hid (show dgB (hb t) = false by
      cases t with
      | nil => exact dgB_zero
      | cons c v =>
        show dgB (c.toNat : Int) = false
        rw [dig_int]
        cases hd : Nm.dig c with
        | false => rfl
        | true => exact absurd hp (pre_dig hd))
    have HF := Lib.hid (fun n => pfail_any s a 1 t.length (a : Int) 1 rfl rfl hal (w.drewN n))
    clear h hp hal
    go_enter Tryz.func60, Tryz.ntmps60
    go_wp2_with fail
    refine HP0.out.mono ?_
    rintro e w1 ⟨rfl, n1, rfl⟩
    go_wp2_with fail
    refine (isDigit_any _ _).mono ?_
    rw [HD.out]
    rintro e w1 ⟨rfl, rfl⟩
    go_wp2_with fail
    refine (HF.out _).mono ?_
    rintro e w2 ⟨⟨g, p, h1, rfl, h2⟩, hb2⟩
    have HFI := Lib.hid (show Went rb s d w (digitsR t) nil0 (.panicked [{ v := .iface 52 (.agg #[.iface 47 (.pointer (some ⟨g, 0, none⟩))]), recovered := false }]) w2 by rw [HPR.out]; exact ⟨((Sole.refl rb w).drewN _).trans (.of_below hb2), g, p, h1, rfl, h2⟩)
    clear h1 h2 hb2
    go_wp2_with fail
    exact ⟨rfl, HFI.out⟩
  · have HPR := Lib.hid (show digitsR t = .ok () (Nm.suf t) by unfold digitsR; rw [if_neg hp])
    have HD := Lib.hid (show dgB (hb t) = true by
      cases t with
      | nil => exact absurd pre_nil hp
      | cons c v =>
        show dgB (c.toNat : Int) = true
        rw [dig_int]
        cases hd : Nm.dig c with
        | true => rfl
        | false => exact absurd (pre_not hd) hp)
    clear h hp hal
    go_enter Tryz.func60, Tryz.ntmps60
    go_wp2_with fail
    refine HP0.out.mono ?_
    rintro e w1 ⟨rfl, n1, rfl⟩
    go_wp2_with fail
    refine (isDigit_any _ _).mono ?_
    rw [HD.out]
    rintro e w1 ⟨rfl, rfl⟩
    go_wp2_with fail
    go_loopg [] t.length (Digiting rb s t d w)
    case atStart => exact ⟨a, t, H.out.drewN _, rfl, rfl, (Sole.refl _ _).drewN _⟩
    case round =>
      clear c0 c1 c2
      obtain ⟨a1, u, hR, hk, hsk, hW⟩ := hrel
      have HR := Lib.hid hR
      have HK := Lib.hid hk
      have HSK := Lib.hid hsk
      have HW := Lib.hid hW
      clear hR hk hsk hW
      have HP1 := Lib.hid (here_any HR.out hs)
      obtain ⟨c0, c1, c2⟩ := HR.out.1.three
      have hf := HR.out.1.frozen
      have ha1 : a1 + u.length = s.size := HR.out.2.1
      have hb' : dgB (hb u) = true → ∃ c v, u = c :: v ∧ Nm.dig c = true := fun hh => by
        cases u with
        | nil => rw [show hb [] = 0 from rfl, dgB_zero] at hh; cases hh
        | cons c v => exact ⟨c, v, rfl, by rw [← dig_int]; exact hh⟩
      cases hd : dgB (hb u) with
      | true =>
        obtain ⟨c, v, rfl, hdc⟩ := hb' hd
        have HD2 := Lib.hid hd
        have HSTEP := Lib.hid (fun n => (HR.out.drewN n).step)
        have HSK2 := Lib.hid (show Nm.suf v = Nm.suf t by rw [← HSK.out, suf_dig hdc])
        simp only [List.length_cons] at HK ha1
        clear hd hdc hb'
        go_wp2_with fail
        refine HP1.out.mono ?_
        rintro e w1 ⟨rfl, n2, rfl⟩
        go_wp2_with fail
        refine (isDigit_any _ _).mono ?_
        rw [HD2.out]
        rintro e w1 ⟨rfl, rfl⟩
        go_wp2_with fail
        go_roundg v.length
        case rel => exact ⟨a1 + 1, v, HSTEP.out _, rfl, HSK2.out, (HW.out.drewN _).set _ _⟩
        case measure => have := HK.out; omega
      | false =>
        have HD2 := Lib.hid hd
        have HSK2 := Lib.hid (show Nm.suf t = u by
          rw [← HSK.out]
          cases u with
          | nil => rfl
          | cons c v => exact suf_not (by rw [← dig_int]; exact hd))
        clear hd hb' ha1
        go_wp2_with fail
        refine HP1.out.mono ?_
        rintro e w1 ⟨rfl, n2, rfl⟩
        go_wp2_with fail
        refine (isDigit_any _ _).mono ?_
        rw [HD2.out]
        rintro e w1 ⟨rfl, rfl⟩
        go_wp2_with fail
        go_end0
        rw [HPR.out]
        exact ⟨HW.out.drewN _, ⟨_, rfl, rfl⟩, a1, by rw [HSK2.out]; exact HR.out⟩

end Go.Proofs.YtnnklbfpgmndoaaGreatDoor


