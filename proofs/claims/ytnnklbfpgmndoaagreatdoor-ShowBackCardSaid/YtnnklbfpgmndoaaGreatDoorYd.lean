/- The program's parse: items at values. (By gen_itemsv.py.) -/
import Derived.Test.YtnnklbfpgmndoaaGreatDoorNb
import Derived.Test.YtnnklbfpgmndoaaGreatDoorNc
import Derived.Deep.LoopGhost
namespace Go.Proofs.YtnnklbfpgmndoaaGreatDoor
open Go.RowKit Js

/-- What value comes to, with so much fuel. -/
def VCz (f : Nat) : Prop := ∀ (rb : Nat) (s : ByteArray) (a : Nat) (t : List UInt8) (d : Nat) (w : World), Pr w rb s a t d → s.size ≤ 100000 → TabsR rb w → d ≤ 32 → 3 * t.length ≤ f →
  Calls Tryz.prog 16 #[.pointer (some ⟨rb, 0, none⟩)] w (VWent rb s d w (Ps.core f d t))

/-- It hands a list back, in memory of its own. -/
def LWentV (rb : Nat) (s : ByteArray) (d : Nat) (w : World) (r : Ps.R (List Vl)) (e : Ending) (w' : World) : Prop :=
  Went rb s d w r (fun l x w' => ∃ A cp, x = .slice A l.length cp ∧ Row w' w.heap.size A cp l) e w'
/-- How far it has come. -/
def ItemsV (rb : Nat) (s : ByteArray) (d g : Nat) (RR : Ps.R (List Vl)) (w : World) (k : Nat) (p : Value) (wr : World) : Prop :=
  ∃ a u A cp acc f', p = .slice A acc.length cp ∧ Pr wr rb s a u (d + 1) ∧ u.length = k ∧ acc.length + u.length ≤ s.size ∧ 3 * u.length ≤ f' + 1 ∧ f' ≤ g ∧ Ps.tailL (Ps.listL Ps.oneV 93 f' (d + 1)) 93 u acc = RR ∧ Row wr w.heap.size A cp acc ∧ Sole rb w wr

/-- One value more. -/
theorem itemV_step {rb : Nat} {s : ByteArray} {a d : Nat} {u : List UInt8} {acc : List Vl} {w W w5 w6 : World} {A : Option Addr} {cp : Nat} {flat : List Value} {v : Vl} {cs : Array Value} {g cap : Nat} (hrb : rb < w.heap.size) (hW : Sole rb w W)
    (hown : W.ownsRow w.heap.size 28 8 (.slice A acc.length cp) acc.length flat) (hel : ∀ i v, acc[i]? = some v → ∃ x, v.In (W.on (Off w.heap.size A)) x ∧ ∀ (j : Nat) u, x.cells[j]? = some u → flat[i * 8 + j]? = some u)
    (hS5 : Sole rb W w5) (hin : v.In (w5.on (W.heap.size ≤ ·)) (.agg cs)) (hP5 : Pr w5 rb s a u d)
    (hown6 : w6.ownsRow w.heap.size 28 8 (.slice (some ⟨g, 0, none⟩) (acc.length + 1) cap) (acc.length + 1) (flat ++ cs.toList)) (hg6 : (w5.alloc (.cells cs 28)).grownBy w6 (Value.slice A acc.length cp).ownBlock)
    (hat : (Value.slice A acc.length cp).ownBlock = some g ∨ g = (w5.alloc (.cells cs 28)).heap.size) :
    Row w6 w.heap.size (some ⟨g, 0, none⟩) cap (acc ++ [v]) ∧ Sole rb w w6 ∧ Pr w6 rb s a u d := by
  have hl := (show Row W w.heap.size A cp acc from ⟨flat, hown, hel⟩).le
  have hob : ∀ k, k < w.heap.size → some k ≠ (Value.slice A acc.length cp).ownBlock := by
    intro k hk
    cases A with
    | none => simp [Value.ownBlock]
    | some ad => have := (hl.2.2.2 ad rfl).1; simp only [Value.ownBlock, ne_eq, Option.some.injEq]; omega
  have hWs := hW.size
  have h5z := hS5.size
  have h6 : ∀ k, k < w.heap.size → w6.heap[k]? = w5.heap[k]? := fun k hk => by
    rw [hg6.block k (by simp; omega) (hob k hk), Below.heap_alloc _ _ _ (by omega)]
  refine ⟨Row.more (T := 28) hWs hrb hS5 hin hown hel hown6 hg6 hat, ?_, hP5.far (h6 _ hrb)⟩
  have hS := hW.trans hS5
  refine ⟨hg6.os.trans hS.os, hg6.tape.trans hS.tape, hg6.output.trans hS.output, ?_, fun k hk hr => ?_⟩
  · have h1 := hg6.size; have h2 := hS.size; simp at h1; omega
  · rw [h6 _ hk]; exact hS.block k hk hr

theorem pass_head {e : UInt8} {t : List UInt8} (h : (Ps.skip t).head? = some e) : passR e (Ps.skip t) = .ok () (Ps.skip t).tail := by
  unfold passR
  rw [Ps.skip_skip]
  cases hq : Ps.skip t with
  | nil => rw [hq] at h; cases h
  | cons c r => rw [hq] at h; cases h; simp
theorem hb_head {e : UInt8} {t : List UInt8} (h : t.head? = some e) : hb t = (e.toNat : Int) := by
  cases t with
  | nil => cases h
  | cons c r => cases h; rfl
theorem hb_not {e : UInt8} {t : List UInt8} (h : ¬ t.head? = some e) (he : e ≠ 0) : hb t ≠ (e.toNat : Int) := by
  cases t with
  | nil =>
    intro h0
    exact he (UInt8.toNat_inj.1 (by show e.toNat = 0; have : (0 : Int) = e.toNat := h0; omega))
  | cons c r =>
    intro h0
    have h0' : (c.toNat : Int) = e.toNat := h0
    exact h (by rw [show c = e from UInt8.toNat_inj.1 (by omega)]; rfl)
theorem tail_end {α : Type} (rec : List UInt8 → List α → Ps.R (List α)) (e : UInt8) (u : List UInt8) (acc : List α) (h : ¬ (Ps.skip u).head? = some 44) : Ps.tailL rec e u acc = (passR e (Ps.skip u)).map (fun _ => acc) := by
  unfold Ps.tailL passR
  rw [Ps.skip_skip]
  cases hq : Ps.skip u with
  | nil => rfl
  | cons c r =>
    rw [hq] at h
    simp only
    rw [if_neg (by simpa using h)]
    by_cases he : c = e
    · rw [if_pos he, if_pos he]; rfl
    · rw [if_neg he, if_neg he]; rfl
theorem tail_more {α : Type} (rec : List UInt8 → List α → Ps.R (List α)) (e : UInt8) (u r : List UInt8) (acc : List α) (h : Ps.skip u = 44 :: r) : Ps.tailL rec e u acc = rec r acc := by
  unfold Ps.tailL
  rw [h]
  simp

set_option linter.unusedSimpArgs false in
set_option linter.unusedVariables false in
set_option maxRecDepth 100000 in
set_option maxHeartbeats 8000000 in
theorem itemsV_any (gg : Nat) (HVC : ∀ f', f' < gg → VCz f') {rb : Nat} {s : ByteArray} {a : Nat} {u : List UInt8} {d : Nat} {w : World} (h : Pr w rb s a (91 :: u) d) (hs : s.size ≤ 100000) (hT : TabsR rb w) (hd : d ≤ 32) (hfu : 3 * u.length + 3 ≤ gg + 1) :
    Calls Tryz.prog 64 #[.pointer (some ⟨rb, 0, none⟩), .int .u8 93, .func (.func 16) #[.pointer (some ⟨rb, 0, none⟩)] #[]] w (LWentV rb s d w (Ps.itemsR Ps.oneV 93 gg d u)) := by
  have H := Lib.hid h
  have hal := h.2.1
  have hrb := h.lt
  obtain ⟨c0, c1, c2⟩ := h.1.three
  have hf := h.1.frozen
  simp only [List.length_cons] at hal
  by_cases hdd : d = 32
  · subst hdd
    have HRQ := Lib.hid (show Ps.itemsR Ps.oneV 93 gg 32 u = .bad 3 (u.length + 1) by unfold Ps.itemsR; rw [if_pos rfl])
    have HF := Lib.hid (pfail_any s a 3 (u.length + 1) (a : Int) 3 rfl rfl hal w)
    clear h hT
    go_enter Tryz.func64, Tryz.ntmps64
    go_wp2_with fail
    refine HF.out.mono ?_
    rintro e w5 ⟨⟨g9, p, h1, rfl, h2⟩, hb5⟩
    have HFI := Lib.hid (show LWentV rb s 32 w (Ps.itemsR Ps.oneV 93 gg 32 u) (.panicked [{ v := .iface 52 (.agg #[.iface 47 (.pointer (some ⟨g9, 0, none⟩))]), recovered := false }]) w5 by unfold LWentV; rw [HRQ.out]; exact ⟨.of_below hb5, g9, p, h1, rfl, h2⟩)
    clear h1 h2 hb5
    go_wp2_with fail
    exact ⟨rfl, HFI.out⟩
  · have hd1 : d < 32 := by omega
    have hne32 : ((d : Int) == 32) = false := by simp; omega
    have ha1 : a + 1 ≤ s.size := by omega
    have hsk := Ps.skip_len u
    obtain ⟨i0, hi0, hz0, hz1, hz2⟩ := infoV'
    have HP2 := Lib.hid (h.deep (d + 1)).step
    have HS2 := Lib.hid (((Sole.refl rb w).set 2 (.int .i64 ((d + 1 : Nat) : Int))).set 1 (.int .i64 ((a : Int) + 1)))
    have HN := Lib.hid (next_any HP2.out (by omega))
    have HT := Lib.hid hT
    clear h hT
    go_enter Tryz.func64, Tryz.ntmps64
    go_wp2_with fail
    refine HN.out.mono ?_
    rintro e W9 ⟨rfl, ⟨a1, hR⟩, hS⟩
    have HSx := Lib.hid (HS2.out.trans hS)
    have HSW := Lib.hid HSx.out
    have HRx := Lib.hid hR
    have HT1 := Lib.hid (HT.out.sole HSx.out)
    have HROWx := Lib.hid (Row.nil W9 w.heap.size)
    have hszW : w.heap.size ≤ W9.heap.size := HSx.out.size
    by_cases h9 : (Ps.skip u).head? = some 93
    · have HRES := Lib.hid (show Ps.itemsR Ps.oneV 93 gg d u = (passR 93 (Ps.skip u)).map (fun _ => ([] : List Vl)) by
        unfold Ps.itemsR
        rw [if_neg (by omega), if_pos h9, pass_head h9]; rfl)
      rw [hb_head h9, show (((93 : UInt8).toNat : Nat) : Int) = 93 from rfl]
      have HPS := Lib.hid (pass_any HRx.out (by omega) 93 93 rfl (by decide))
      clear hR hS h9 c0 c1 c2 hf
      go_wp2_with fail
      refine HPS.out.mono ?_
      cases hq : passR 93 (Ps.skip u) with
      | ok v u9 =>
        rintro e w9 ⟨hS9, ⟨x, rfl, hx⟩, a9, hP9⟩
        obtain rfl : x = .tuple #[] := hx
        have HS9 := Lib.hid (HSx.out.trans hS9)
        have HP9 := Lib.hid (hP9.deep d)
        have HROW9 := Lib.hid (HROWx.out.keep (fun k hk hlt => hS9.block k hlt (by omega)))
        have HRQ9 := Lib.hid (show Ps.itemsR Ps.oneV 93 gg d u = .ok [] u9 by rw [HRES.out, hq]; rfl)
        obtain ⟨c0, c1, c2⟩ := hP9.1.three
        have hf := hP9.1.frozen
        clear hS9 hP9 hq
        go_wp2_with fail
        go_ret
        unfold LWentV
        rw [HRQ9.out]
        exact ⟨HS9.out.set _ _, ⟨_, rfl, none, 0, rfl, HROW9.out.keep (fun k hk hlt => Below.heap_setCell _ _ _ _ (by show k ≠ rb; omega))⟩, a9, HP9.out⟩
      | bad c l =>
        rintro e w9 ⟨hS9, g9, p9, h1, rfl, h2⟩
        have HFI := Lib.hid (show LWentV rb s d w (Ps.itemsR Ps.oneV 93 gg d u) (.panicked [{ v := .iface 52 (.agg #[.iface 47 (.pointer (some ⟨g9, 0, none⟩))]), recovered := false }]) w9 by unfold LWentV; rw [HRES.out, hq]; exact ⟨HSx.out.trans hS9, g9, p9, h1, rfl, h2⟩)
        clear h1 h2 hS9 hq
        go_wp2_with fail
        exact ⟨rfl, HFI.out⟩
    · have hhb : (hb (Ps.skip u) != 93) = true := by rw [bne_iff_ne]; exact hb_not h9 (by decide)
      obtain ⟨g, rfl⟩ : ∃ g0, gg = g0 + 2 := ⟨gg - 2, by omega⟩
      have HCV := Lib.hid (HVC g (by omega) rb s a1 (Ps.skip u) (d + 1) W9 HRx.out hs HT1.out (by omega) (by omega))
      have HRES := Lib.hid (show Ps.itemsR Ps.oneV 93 (g + 2) d u = Ps.listL Ps.oneV 93 (g + 2) (d + 1) (Ps.skip u) [] by unfold Ps.itemsR; rw [if_neg (by omega), if_neg h9])
      generalize hA0 : (none : Option Addr) = A0
      have hown : W9.ownsRow w.heap.size 28 8 (.slice A0 0 0) 0 [] := ⟨by simp, .inl ⟨by rw [← hA0], rfl⟩⟩
      have HOWN := Lib.hid hown
      clear hA0
      have HEL := Lib.hid (show ∀ i v, ([] : List Vl)[i]? = some v → ∃ x, v.In (W9.on (Off w.heap.size A0)) x ∧ ∀ (j : Nat) u, x.cells[j]? = some u → ([] : List Value)[i * 8 + j]? = some u from fun i v h => by simp at h)
      have hto := Ps.core_told g (d + 1) (Ps.skip u) (by omega)
      clear hR hS h9 c0 c1 c2 hf hown
      generalize hb (Ps.skip u) = q at hhb ⊢
      go_wp2_with fail
      refine HCV.out.mono ?_
      cases hq : Ps.core g (d + 1) (Ps.skip u) with
      | bad c l =>
        have HRB := Lib.hid (show Ps.itemsR Ps.oneV 93 (g + 2) d u = .bad c l by rw [HRES.out, Ps.listL, Ps.oneV, Ps.itemV, hq])
        rintro e w9 ⟨hS9, g9, p9, h1, rfl, h2⟩
        have HFI := Lib.hid (show LWentV rb s d w (Ps.itemsR Ps.oneV 93 (g + 2) d u) (.panicked [{ v := .iface 52 (.agg #[.iface 47 (.pointer (some ⟨g9, 0, none⟩))]), recovered := false }]) w9 by unfold LWentV; rw [HRB.out]; exact ⟨HSx.out.trans hS9, g9, p9, h1, rfl, h2⟩)
        clear h1 h2 hS9 hq
        go_wp2_with fail
        exact ⟨rfl, HFI.out⟩
      | ok v u2 =>
        have HRT := Lib.hid (show Ps.itemsR Ps.oneV 93 (g + 2) d u = Ps.tailL (Ps.listL Ps.oneV 93 (g + 1) (d + 1)) 93 u2 [v] by rw [HRES.out, Ps.listL, Ps.oneV, Ps.itemV, hq]; rfl)
        rw [hq] at hto
        have hto2 := hto.2
        have hvp := size_pos v
        rintro e w5 ⟨hS9, ⟨x, rfl, hx⟩, a5, hP5⟩
        obtain ⟨k1, b1, n1, g1, x1, s1, A1, l1, p1, B1, m1, z1, rfl⟩ := In.cells hx
        have HS5 := Lib.hid hS9
        have HP5 := Lib.hid hP5
        have HIN5 := Lib.hid hx
        have HOWN5 := Lib.hid (own_keep (w' := w5.alloc (.cells #[.int .i64 k1, .bool b1, .bool n1, .string ⟨g1.toArray⟩, .int .i64 x1, .string ⟨s1.toArray⟩, .slice A1 l1 p1, .slice B1 m1 z1] 28)) HOWN.out (fun k hk hlt => (Below.heap_alloc _ _ _ (by have := hS9.size; omega)).trans (hS9.block k hlt (by omega))))
        have hsz5 : W9.heap.size ≤ w5.heap.size := hS9.size
        clear hS9 hP5 hx hto hq
        go_wp2_with (refine wpList_append_lies _ rfl _ _ _ rfl w.heap.size 28 i0 _ 8 112 Tryz.underlying25 hi0 hz0 hz1 hz2 rfl (by omega) (.slice A0 0 0) 0 [] rfl HOWN5.out ⟨w5.heap.size, 0, none⟩ 1 1 [.int .i64 k1, .bool b1, .bool n1, .string ⟨g1.toArray⟩, .int .i64 x1, .string ⟨s1.toArray⟩, .slice A1 l1 p1, .slice B1 m1 z1] rfl rfl (World.news_of_block (heap_alloc_new w5 _)) (by simp [Value.oneCell']) (by omega) (by unfold maxLen; omega) (by omega) (by simp; omega) _ rfl ?_; intro g6 cap6 w6 hown6 hgrow6 hat6 hlt6; have HST := Lib.hid (itemV_step (acc := []) hrb HSW.out HOWN.out HEL.out HS5.out HIN5.out HP5.out hown6 hgrow6 hat6); clear hown6 hgrow6 hat6 hlt6)
        obtain ⟨hrow6, hS6, hP6⟩ := HST.out
        have HROW6 := Lib.hid hrow6
        have HS6 := Lib.hid hS6
        have HP6 := Lib.hid hP6
        clear hrow6 hS6 hP6
        go_loopg [7] u2.length (ItemsV rb s d (g + 1) (Ps.itemsR Ps.oneV 93 (g + 2) d u) w)
        case atStart => exact ⟨a5, u2, some ⟨g6, 0, none⟩, cap6, [v], g + 1, rfl, HP6.out, rfl, by simp only [List.length_singleton]; omega, by omega, Nat.le_refl _, HRT.out.symm, HROW6.out, HS6.out⟩
        case round =>
          obtain ⟨a7, t7, A, cp, acc, f', rfl, hR7, hk7, hal7, hf7, hg7, hres7, hrow7, hS7⟩ := hrel
          have HK7 := Lib.hid hk7
          have HN7 := Lib.hid (next_any hR7 (by omega))
          have HROW7 := Lib.hid hrow7
          have HS7 := Lib.hid hS7
          have HRES7 := Lib.hid hres7
          have hsk7 := Ps.skip_len t7
          have hal8 : acc.length ≤ 100000 := by omega
          have hacp := hrow7.le.1
          clear HOWN HEL HOWN5 HIN5 HST HROW6 HS6 HP6 HS5 HP5 HROWx HRx HSx HSW hk7 hR7 hrow7 hS7 hres7 hsz5 hszW
          go_wp2_with fail
          refine HN7.out.mono ?_
          rintro e W9 ⟨rfl, ⟨a8, hR8⟩, hS8⟩
          have HSx := Lib.hid (HS7.out.trans hS8)
          have hszW : w.heap.size ≤ W9.heap.size := HSx.out.size
          have HROWx := Lib.hid (HROW7.out.keep (fun k hk hlt => hS8.block k hlt (by omega)))
          by_cases h44 : (Ps.skip t7).head? = some 44
          · obtain ⟨r, hr⟩ : ∃ r, Ps.skip t7 = 44 :: r := by
              cases hq : Ps.skip t7 with
              | nil => rw [hq] at h44; cases h44
              | cons c r => rw [hq] at h44; cases h44; exact ⟨r, rfl⟩
            rw [hr] at hR8 hsk7
            simp only [List.length_cons] at hsk7
            rw [hr, show hb (44 :: r) = 44 from rfl]
            have ha8 : a8 + (r.length + 1) = s.size := by simpa using hR8.2.1
            obtain ⟨f', rfl⟩ : ∃ f0, f' = f0 + 2 := ⟨f' - 2, by omega⟩
            have HSW := Lib.hid (HSx.out.set 1 (.int .i64 ((a8 : Int) + 1)))
            have HT8 := Lib.hid (HT.out.sole HSW.out)
            have HROW8 := Lib.hid (HROWx.out.keep (fun k hk hlt => Below.heap_setCell W9 ⟨rb, 1, none⟩ (.int .i64 ((a8 : Int) + 1)) k (by show k ≠ rb; omega)))
            have hszs : (W9.setCell ⟨rb, 1, none⟩ (.int .i64 ((a8 : Int) + 1))).heap.size = W9.heap.size := by simp [World.setCell]
            have HCV := Lib.hid (HVC f' (by omega) rb s (a8 + 1) r (d + 1) (W9.setCell ⟨rb, 1, none⟩ (.int .i64 ((a8 : Int) + 1))) hR8.step hs HT8.out (by omega) (by omega))
            have hto := Ps.core_told f' (d + 1) r (by omega)
            obtain ⟨c0, c1, c2⟩ := hR8.1.three
            have hf := hR8.1.frozen
            obtain ⟨flat, hown, hel⟩ := HROW8.out
            have HOWN := Lib.hid hown
            have HEL := Lib.hid hel
            clear hown hel hR8 hS8 h44
            go_wp2_with fail
            refine HCV.out.mono ?_
            cases hq : Ps.core f' (d + 1) r with
            | bad c l =>
              have HRB := Lib.hid (show Ps.itemsR Ps.oneV 93 (g + 2) d u = .bad c l by rw [← HRES7.out, tail_more _ _ _ _ _ hr, Ps.listL, Ps.oneV, Ps.itemV, hq])
              rintro e w9 ⟨hS9, g9, p9, h1, rfl, h2⟩
              have HFI := Lib.hid (show LWentV rb s d w (Ps.itemsR Ps.oneV 93 (g + 2) d u) (.panicked [{ v := .iface 52 (.agg #[.iface 47 (.pointer (some ⟨g9, 0, none⟩))]), recovered := false }]) w9 by unfold LWentV; rw [HRB.out]; exact ⟨HSW.out.trans hS9, g9, p9, h1, rfl, h2⟩)
              clear h1 h2 hS9 hq
              go_wp2_with fail
              exact ⟨rfl, HFI.out⟩
            | ok v2 u3 =>
              have HRT7 := Lib.hid (show Ps.itemsR Ps.oneV 93 (g + 2) d u = Ps.tailL (Ps.listL Ps.oneV 93 (f' + 1) (d + 1)) 93 u3 (acc ++ [v2]) by rw [← HRES7.out, tail_more _ _ _ _ _ hr, Ps.listL, Ps.oneV, Ps.itemV, hq])
              rw [hq] at hto
              have hto3 := hto.2
              have hvp2 := size_pos v2
              rintro e w5 ⟨hS9, ⟨x, rfl, hx⟩, a5, hP5⟩
              obtain ⟨k1, b1, n1, g1, x1, s1, A1, l1, p1, B1, m1, z1, rfl⟩ := In.cells hx
              have HS5 := Lib.hid hS9
              have HP5 := Lib.hid hP5
              have HIN5 := Lib.hid hx
              have HOWN5 := Lib.hid (own_keep (w' := w5.alloc (.cells #[.int .i64 k1, .bool b1, .bool n1, .string ⟨g1.toArray⟩, .int .i64 x1, .string ⟨s1.toArray⟩, .slice A1 l1 p1, .slice B1 m1 z1] 28)) HOWN.out (fun k hk hlt => (Below.heap_alloc _ _ _ (by have := hS9.size; omega)).trans (hS9.block k hlt (by omega))))
              have hsz5 : (W9.setCell ⟨rb, 1, none⟩ (.int .i64 ((a8 : Int) + 1))).heap.size ≤ w5.heap.size := hS9.size
              rw [hszs] at hsz5
              clear hS9 hP5 hx hto hq c0 c1 c2 hf
              go_wp2_with (refine wpList_append_lies _ rfl _ _ _ rfl w.heap.size 28 i0 _ 8 112 Tryz.underlying25 hi0 hz0 hz1 hz2 rfl (by omega) (.slice A acc.length cp) acc.length flat rfl HOWN5.out ⟨w5.heap.size, 0, none⟩ 1 1 [.int .i64 k1, .bool b1, .bool n1, .string ⟨g1.toArray⟩, .int .i64 x1, .string ⟨s1.toArray⟩, .slice A1 l1 p1, .slice B1 m1 z1] rfl rfl (World.news_of_block (heap_alloc_new w5 _)) (by simp [Value.oneCell']) (by omega) (by unfold maxLen; omega) (by omega) (by simp; omega) _ rfl ?_; intro g6 cap6 w6 hown6 hgrow6 hat6 hlt6; have HST := Lib.hid (itemV_step (acc := acc) hrb HSW.out HOWN.out HEL.out HS5.out HIN5.out HP5.out hown6 hgrow6 hat6); clear hown6 hgrow6 hat6 hlt6)
              obtain ⟨hrow6, hS6, hP6⟩ := HST.out
              have HROW6 := Lib.hid hrow6
              have HS6 := Lib.hid hS6
              have HP6 := Lib.hid hP6
              clear hrow6 hS6 hP6
              go_roundg u3.length
              case rel => exact ⟨a5, u3, some ⟨g6, 0, none⟩, cap6, acc ++ [v2], f' + 1, by rw [List.length_append, List.length_singleton], HP6.out, rfl, by rw [List.length_append, List.length_singleton]; omega, by omega, by omega, HRT7.out.symm, HROW6.out, HS6.out⟩
              case measure => have := HK7.out; omega
          · have HRES := Lib.hid (show Ps.itemsR Ps.oneV 93 (g + 2) d u = (passR 93 (Ps.skip t7)).map (fun _ => acc) by rw [← HRES7.out, tail_end _ _ _ _ h44])
            have HRx := Lib.hid hR8
            have hne : ((hb (Ps.skip t7) : Int) == 44) = false := by rw [beq_eq_false_iff_ne]; exact hb_not h44 (by decide)
            generalize hb (Ps.skip t7) = q7 at hne ⊢
            have HPS := Lib.hid (pass_any HRx.out (by omega) 93 93 rfl (by decide))
            clear hR8 hS8 h44
            go_wp2_with fail
            refine HPS.out.mono ?_
            cases hq : passR 93 (Ps.skip t7) with
            | ok v u9 =>
              rintro e w9 ⟨hS9, ⟨x, rfl, hx⟩, a9, hP9⟩
              obtain rfl : x = .tuple #[] := hx
              have HS9 := Lib.hid (HSx.out.trans hS9)
              have HP9 := Lib.hid (hP9.deep d)
              have HROW9 := Lib.hid (HROWx.out.keep (fun k hk hlt => hS9.block k hlt (by omega)))
              have HRQ9 := Lib.hid (show Ps.itemsR Ps.oneV 93 (g + 2) d u = .ok acc u9 by rw [HRES.out, hq]; rfl)
              obtain ⟨c0, c1, c2⟩ := hP9.1.three
              have hf := hP9.1.frozen
              clear hS9 hP9 hq
              go_wp2_with fail
              go_ret
              unfold LWentV
              rw [HRQ9.out]
              exact ⟨HS9.out.set _ _, ⟨_, rfl, A, cp, rfl, HROW9.out.keep (fun k hk hlt => Below.heap_setCell _ _ _ _ (by show k ≠ rb; omega))⟩, a9, HP9.out⟩
            | bad c l =>
              rintro e w9 ⟨hS9, g9, p9, h1, rfl, h2⟩
              have HFI := Lib.hid (show LWentV rb s d w (Ps.itemsR Ps.oneV 93 (g + 2) d u) (.panicked [{ v := .iface 52 (.agg #[.iface 47 (.pointer (some ⟨g9, 0, none⟩))]), recovered := false }]) w9 by unfold LWentV; rw [HRES.out, hq]; exact ⟨HSx.out.trans hS9, g9, p9, h1, rfl, h2⟩)
              clear h1 h2 hS9 hq
              go_wp2_with fail
              exact ⟨rfl, HFI.out⟩

end Go.Proofs.YtnnklbfpgmndoaaGreatDoor

