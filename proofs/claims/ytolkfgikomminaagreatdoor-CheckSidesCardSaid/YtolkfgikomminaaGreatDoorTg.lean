/- The walks of the document's answers of layer 1, seventh part: Number. -/
import Derived.Test.YtolkfgikomminaaGreatDoorMo
import Derived.Test.YtolkfgikomminaaGreatDoorMa
import Derived.Deep.LoopGhost
namespace Go.Proofs.YtolkfgikomminaaGreatDoor
open Go.RowKit

structure Going (w : World) (neg : Bool) (wr : World) : Prop where
 c0 : wr.cell? ⟨w.heap.size + 1, 0, none⟩ = some (.bool neg)
 c1 : wr.cell? ⟨w.heap.size + 1, 1, none⟩ = some (.string ⟨#[]⟩)
 c2 : wr.cell? ⟨w.heap.size + 1, 2, none⟩ = some (.int .i64 0)
 fz : ∀ o, wr.frozen? ⟨w.heap.size + 1, o, none⟩ = false
 below : Below (w.heap.size + 1) (w.alloc (.cells #[.bool false, .string ⟨#[]⟩, .int .i64 0] 27)) wr
 size : w.heap.size + 2 ≤ wr.heap.size

theorem Going.start (w : World) : Going w false ((w.alloc (.cells #[.bool false, .string ⟨#[]⟩, .int .i64 0] 27)).alloc (.cells #[.bool false, .string ⟨#[]⟩, .int .i64 0] 27)) :=
 ⟨by simp, by simp, by simp, fun o => by simp, (Below.refl _ _).alloc (by simp) _, by simp⟩
theorem Going.alloc {w : World} {neg : Bool} {wr : World} (h : Going w neg wr) (o : Obj) : Going w neg (wr.alloc o) := by
 have hb : Below wr.heap.size wr (wr.alloc o) := (Below.refl _ _).alloc (Nat.le_refl _) _
 have hz := h.size
 have hc := fun k => hb.cell (p := ⟨w.heap.size + 1, k, none⟩) (by simp; omega)
 exact ⟨(hc 0).trans h.c0, (hc 1).trans h.c1, (hc 2).trans h.c2, fun k => (hb.frozen (p := ⟨w.heap.size + 1, k, none⟩) (by simp; omega)).trans (h.fz k), h.below.trans (hb.mono (by omega)), by have := hb.size; omega⟩
theorem Going.minus {w : World} {neg : Bool} {wr : World} (h : Going w neg wr) : Going w true (wr.setCell ⟨w.heap.size + 1, 0, none⟩ (.bool true)) := by
 refine ⟨World.cell?_setCell_same _ _ _ h.c0, (World.cell?_setCell_other _ _ _ _ (fun e => by cases e)).trans h.c1, (World.cell?_setCell_other _ _ _ _ (fun e => by cases e)).trans h.c2, fun o => by rw [World.frozen?_setCell]; exact h.fz o, h.below.setCell (p := ⟨w.heap.size + 1, 0, none⟩) (Nat.le_refl _) _, by simp [World.setCell]; exact h.size⟩

theorem Going.full {w : World} {neg : Bool} {wr : World} (h : Going w neg wr) (R : List UInt8) (x : Int) {w2 : World}
  (hb : Below ((wr.setCell ⟨w.heap.size + 1, 1, none⟩ (.string ⟨R.toArray⟩)).setCell ⟨w.heap.size + 1, 2, none⟩ (.int .i64 x)).heap.size ((wr.setCell ⟨w.heap.size + 1, 1, none⟩ (.string ⟨R.toArray⟩)).setCell ⟨w.heap.size + 1, 2, none⟩ (.int .i64 x)) w2) :
  NumAt w2 (w.heap.size + 1) neg R x ∧ Below (w.heap.size + 1) (w.alloc (.cells #[.bool false, .string ⟨#[]⟩, .int .i64 0] 27)) w2 ∧ w.heap.size + 2 ≤ w2.heap.size := by
 have hz : ((wr.setCell ⟨w.heap.size + 1, 1, none⟩ (.string ⟨R.toArray⟩)).setCell ⟨w.heap.size + 1, 2, none⟩ (.int .i64 x)).heap.size = wr.heap.size := by simp [World.setCell]
 have hs := h.size
 have n0 : NumAt ((wr.setCell ⟨w.heap.size + 1, 1, none⟩ (.string ⟨R.toArray⟩)).setCell ⟨w.heap.size + 1, 2, none⟩ (.int .i64 x)) (w.heap.size + 1) neg R x := by
  refine ⟨?_, ?_, ?_⟩
  ·rw [World.cell?_setCell_other _ _ _ _ (fun e => by cases e), World.cell?_setCell_other _ _ _ _ (fun e => by cases e)]; exact h.c0
  ·rw [World.cell?_setCell_other _ _ _ _ (fun e => by cases e)]; exact World.cell?_setCell_same _ _ _ h.c1
  ·exact World.cell?_setCell_same _ _ _ ((World.cell?_setCell_other _ _ _ _ (fun e => by cases e)).trans h.c2)
 refine ⟨n0.keep hb (by omega), ?_, by have := hb.size; omega⟩
 exact ((h.below.setCell (p := ⟨w.heap.size + 1, 1, none⟩) (Nat.le_refl _) _).setCell (p := ⟨w.heap.size + 1, 2, none⟩) (Nat.le_refl _) _).trans (hb.mono (by omega))

def Gone (w : World) (l : List UInt8) (v7 v8 v9 v10 v11 v12 v13 : Value) (wr : World) (k : Nat) : Prop :=
 k ≤ l.length ∧ v13 = .int .i64 k ∧ v7 = .string ⟨(Nm.scan (l.take k)).digits.toArray⟩ ∧ v8 = .int .i64 (Nm.scan (l.take k)).behind ∧ v9 = .bool (Nm.scan (l.take k)).point ∧
  v10 = .int .i64 (Nm.scan (l.take k)).exp ∧ v11 = .bool (Nm.scan (l.take k)).down ∧ v12 = .bool (Nm.scan (l.take k)).power ∧ Going w (Nm.scan (l.take k)).neg wr

theorem Gone.mk {w wr : World} {l : List UInt8} {k : Nat} {neg : Bool} {D : List UInt8} {beh : Nat} {pt : Bool} {ex : Int} {dn pw : Bool} (hk : k + 1 ≤ l.length) (hs : Nm.scan (l.take (k + 1)) = ⟨neg, D, beh, pt, ex, dn, pw⟩) (hg : Going w neg wr) :
  Gone w l (.string ⟨D.toArray⟩) (.int .i64 beh) (.bool pt) (.int .i64 ex) (.bool dn) (.bool pw) (.int .i64 ((k : Int) + 1)) wr (k + 1) := by
 unfold Gone
 rw [hs]
 exact ⟨hk, by go_num, rfl, rfl, rfl, rfl, rfl, rfl, hg⟩

theorem byte_back (c : UInt8) : UInt8.ofNat ((c.toNat : Int).toNat) = c := by
 rw [Int.toNat_natCast]; exact UInt8.ofNat_toNat

set_option linter.unusedSimpArgs false in
set_option maxRecDepth 100000 in
set_option maxHeartbeats 2000000 in
theorem number_any (s : ByteArray) (w : World) (hs : s.size ≤ 100000) (HNL : Nm.NumLaw s.data.toList) :
  Calls Tryz.prog 47 #[.string s] w fun e w' => e = .returned (.tuple #[numV (Nm.parse s.data.toList).1, .int .i64 (Nm.parse s.data.toList).2]) ∧ Below w.heap.size w w' := by
 have F0 : From s 0 s.data.toList := ⟨by omega, by omega, rfl⟩
 have hsl : s.data.toList.length = s.size := (Lib.size_eq s).symm
 have HSL := Lib.hid hsl
 clear hsl
 have hse := Nm.split_end s.data.toList
 go_enter Tryz.func47, Tryz.ntmps47
 go_wp2_with fail
 refine (end_any s 0 _ _ F0 (by omega)).mono ?_
 unfold Ends
 rintro e w' ⟨rfl, rfl⟩
 generalize Nm.endOf s.data.toList = eo at hse ⊢
 obtain ⟨rem, ok⟩ := eo
 by_cases hok : ok = true ∧ rem = []
 ·obtain ⟨rfl, rfl⟩ := hok
  have hsp := Lib.hid (hse.2 rfl)
  clear hse
  go_wp2_with fail
  go_loopw [7, 8, 9, 10, 11, 12, 13] (fun v7 v8 v9 v10 v11 v12 v13 wr => ∃ k : Nat, Gone w s.data.toList v7 v8 v9 v10 v11 v12 v13 wr k) (fun _ _ _ _ _ _ v13 _ => s.size - (intOf v13).toNat)
  case atStart => exact ⟨0, Nat.zero_le _, rfl, rfl, rfl, rfl, rfl, rfl, rfl, Going.start w⟩
  case round =>
   obtain ⟨k, hk, rfl, rfl, rfl, rfl, rfl, rfl, rfl, hG⟩ := hrel
   have hkl : k ≤ s.size := by rw [← HSL.out]; exact hk
   clear hk
   have hbd := Nm.scan_bd (s.data.toList.take k)
   rw [List.length_take, HSL.out] at hbd
   by_cases hlt : k < s.size
   ·have HSN := Lib.hid (Nm.scan_snoc s.data.toList k (by rw [HSL.out]; exact hlt))
    have hix : ∀ h, s[k]'h = s.data.toList[k]'(by rw [HSL.out]; exact hlt) := fun _ => rfl
    generalize s.data.toList[k]'(by rw [HSL.out]; exact hlt) = c at HSN hix
    generalize Nm.scan (s.data.toList.take k) = st at HSN hbd hG ⊢
    obtain ⟨neg, D, beh, pt, ex, dn, pw⟩ := st
    simp only at hbd hG
    have hkl' : k + 1 ≤ s.data.toList.length := by rw [HSL.out]; exact hlt
    have HK := Lib.hid hkl'
    obtain ⟨⟨hx0, hx1⟩, hbh, hdl⟩ := hbd
    have hdl' : D.length ≤ 100000 := by omega
    have hbh' : beh ≤ 100000 := by omega
    have h256 := c.toNat_lt
    clear hkl' hbh hdl
    cases pw
    ·by_cases c45 : c = 45
     ·have b45 : ((c.toNat : Int) == 45) = true := Nm.byte_eq c45
      have C45 := Lib.hid c45
      clear c45
      have g0 := hG.c0
      have gf := hG.fz 0
      go_wp2_with fail
      exact ⟨⟨k + 1, Gone.mk HK.out (HSN.out.trans (by simp [Nm.step, C45.out])) hG.minus⟩, by simp [intOf]; omega⟩
     ·have b45 : ((c.toNat : Int) == 45) = false := Nm.byte_ne c45
      have C45 := Lib.hid c45
      clear c45
      by_cases c46 : c = 46
      ·have b46 : ((c.toNat : Int) == 46) = true := Nm.byte_eq c46
       have C46 := Lib.hid c46
       clear c46
       go_wp2_with fail
       exact ⟨⟨k + 1, Gone.mk HK.out (HSN.out.trans (by simp [Nm.step, C46.out])) hG⟩, by simp [intOf]; omega⟩
      ·have b46 : ((c.toNat : Int) == 46) = false := Nm.byte_ne c46
       have C46 := Lib.hid c46
       clear c46
       by_cases c101 : c = 101
       ·have b101 : ((c.toNat : Int) == 101) = true := Nm.byte_eq c101
        have C101 := Lib.hid c101
        clear c101
        go_wp2_with fail
        exact ⟨⟨k + 1, Gone.mk HK.out (HSN.out.trans (by simp [Nm.step, C101.out])) hG⟩, by simp [intOf]; omega⟩
       ·have b101 : ((c.toNat : Int) == 101) = false := Nm.byte_ne c101
        have C101 := Lib.hid c101
        clear c101
        by_cases c69 : c = 69
        ·have b69 : ((c.toNat : Int) == 69) = true := Nm.byte_eq c69
         have C69 := Lib.hid c69
         clear c69
         go_wp2_with fail
         exact ⟨⟨k + 1, Gone.mk HK.out (HSN.out.trans (by simp [Nm.step, C69.out])) hG⟩, by simp [intOf]; omega⟩
        ·have b69 : ((c.toNat : Int) == 69) = false := Nm.byte_ne c69
         have C69 := Lib.hid c69
         clear c69
         have hcw := one_byte (wr.alloc (.cells #[.int .u8 (c.toNat : Int)] 5)) wr.heap.size c.toNat (by simp) (by omega) (by omega)
         rw [byte_back] at hcw
         have hadd := fun W => cat_mk W D [c] (by simp; omega)
         cases pt
         ·go_wp2_with fail
          exact ⟨⟨k + 1, Gone.mk HK.out (HSN.out.trans (by simp [Nm.step, C45.out, C46.out, C101.out, C69.out])) (hG.alloc _)⟩, by simp [intOf]; omega⟩
         ·go_wp2_with fail
          exact ⟨⟨k + 1, Gone.mk (beh := beh + 1) HK.out (HSN.out.trans (by simp [Nm.step, C45.out, C46.out, C101.out, C69.out])) (hG.alloc _)⟩, by simp [intOf]; omega⟩
    ·by_cases c45 : c = 45
     ·have b45 : ((c.toNat : Int) == 45) = true := Nm.byte_eq c45
      have C45 := Lib.hid c45
      have hlo : (c.toNat : Int) < 48 := by rw [c45]; decide
      clear c45
      go_wp2_with fail
      exact ⟨⟨k + 1, Gone.mk HK.out (HSN.out.trans (by simp [Nm.step, Nm.stepE, Nm.dig, C45.out])) hG⟩, by simp [intOf]; omega⟩
     ·have b45 : ((c.toNat : Int) == 45) = false := Nm.byte_ne c45
      have C45 := Lib.hid c45
      clear c45
      by_cases hd : Nm.dig c = true
      ·have hd' := Nm.dig_bd hd
       obtain ⟨hd1, hd2⟩ := hd'
       have HD := Lib.hid hd
       clear hd
       go_wp2_with fail
       exact ⟨⟨k + 1, Gone.mk HK.out (HSN.out.trans (by simp [Nm.step, Nm.stepE, HD.out, C45.out])) hG⟩, by simp [intOf]; omega⟩
      ·have hd' : c.toNat < 48 ∨ 57 < c.toNat := by
        simp only [Nm.dig, Bool.and_eq_true, decide_eq_true_eq] at hd; omega
       have HD := Lib.hid (show Nm.dig c = false from by simpa using hd)
       clear hd
       rcases hd' with hd' | hd'
       all_goals
        go_wp2_with fail
        exact ⟨⟨k + 1, Gone.mk HK.out (HSN.out.trans (by simp [Nm.step, Nm.stepE, HD.out, C45.out])) hG⟩, by simp [intOf]; omega⟩
   ·have hke : k = s.size := by omega
    subst hke
    rw [show s.data.toList.take s.size = s.data.toList from by rw [← HSL.out, List.take_length]] at hbd hG ⊢
    clear hlt hkl
    obtain ⟨HDG, HPR⟩ := HNL hsp.out
    have HDG' := Lib.hid HDG
    have HPR' := Lib.hid HPR
    clear HDG HPR
    generalize Nm.scan s.data.toList = st at HDG' HPR' hbd hG ⊢
    obtain ⟨neg, D, beh, pt, ex, dn, pw⟩ := st
    simp only at hbd hG
    obtain ⟨⟨hx0, hx1⟩, hbh, hdl⟩ := hbd
    have hdl' : D.length ≤ 100000 := by omega
    have hbh' : beh ≤ 100000 := by omega
    cases dn
    ·go_wp2_with fail
     generalize hx0 : (ex - (beh : Int)) = x0
     have hx1 : -1200000 ≤ x0 := by omega
     have hx2 : x0 ≤ 1200000 := by omega
     have HX0 := Lib.hid hx0
     clear hx0
     go_loop [15] (fun v15 => ∃ j : Nat, j ≤ D.length ∧ v15 = .int .i64 j ∧ ∀ (i : Nat) b, i < j → D[i]? = some b → b = 48) (fun v15 => D.length - (intOf v15).toNat)
     case atStart => exact ⟨0, Nat.zero_le _, rfl, fun i b hi => absurd hi (Nat.not_lt_zero _)⟩
     case round =>
      obtain ⟨j, hj, rfl, hz⟩ := hrel
      have hZ : Lib.Kept (∀ (i : Nat) b, i < j → D[i]? = some b → b = 48) := hz
      clear hz
      have hstop : j < D.length ∧ D[j]? = some 48 ∨ (∃ hne : ¬ (j < D.length ∧ D[j]? = some 48), True) := by
       by_cases h : j < D.length ∧ D[j]? = some 48
       ·exact .inl h
       ·exact .inr ⟨h, trivial⟩
      rcases hstop with ⟨hlt, hd⟩ | ⟨hne, -⟩
      ·have hix : ∀ h, (⟨D.toArray⟩ : ByteArray)[j]'h = 48 := fun h => by
        rw [List.getElem?_eq_getElem hlt] at hd
        exact Option.some.inj hd
       have HD := Lib.hid hd
       clear hd
       go_wp2_with fail
       go_round
       case rel => exact ⟨j + 1, by omega, by go_num, fun i b hi hb => (by
        by_cases e : i = j
        ·subst e; rw [HD.out] at hb; exact (Option.some.inj hb).symm
        ·exact hZ i b (by omega) hb)⟩
       case measure => simp [intOf]; omega
      ·have HTL := Lib.hid (Lib.trimLeftB_drop D 48 j hj hZ (fun b hb e => hne ⟨(by
        rcases Nat.lt_or_ge j D.length with h | h
        ·exact h
        ·rw [List.getElem?_eq_none h] at hb; cases hb), by rw [hb, e]⟩))
       have hways : (¬ j < D.length) ∨ (j < D.length ∧ ∃ b, D[j]? = some b ∧ b ≠ 48) := by
        by_cases h : j < D.length
        ·right
         refine ⟨h, D[j], List.getElem?_eq_getElem h, fun e => hne ⟨h, by rw [List.getElem?_eq_getElem h, e]⟩⟩
        ·exact .inl h
       clear hne hZ
       have hpass : Lib.Kept True := trivial
       rcases hways with hge | ⟨hlt, b, hb, hb48⟩
       rotate_left
       have hix : ∀ h, (⟨D.toArray⟩ : ByteArray)[j]'h = b := fun h => by
        rw [List.getElem?_eq_getElem hlt] at hb
        exact Option.some.inj hb
       have bb : ((b.toNat : Int) == 48) = false := Nm.byte_ne hb48
       clear hb hb48
       all_goals
        go_wp2_with fail
        go_loop [16, 10] (fun v16 v10 => ∃ q : Nat, j ≤ q ∧ q ≤ D.length ∧ v16 = .int .i64 q ∧ v10 = .int .i64 (x0 + ((D.length : Int) - q)) ∧ ∀ (i : Nat) b, q ≤ i → D[i]? = some b → b = 48) (fun v16 _ => (intOf v16).toNat)
        case atStart => exact ⟨D.length, hj, Nat.le_refl _, rfl, by congr 1; omega, fun i b hi hb => by rw [List.getElem?_eq_none hi] at hb; cases hb⟩
        case round =>
         obtain ⟨q, hjq, hq, rfl, rfl, hz⟩ := hrel
         have hZ : Lib.Kept (∀ (i : Nat) b, q ≤ i → D[i]? = some b → b = 48) := hz
         clear hz
         by_cases hcont : j < q ∧ D[q - 1]? = some 48
         ·obtain ⟨hlt3, hd3⟩ := hcont
          (try (exfalso; omega))
          all_goals
           obtain ⟨q', rfl⟩ : ∃ q', q = q' + 1 := ⟨q - 1, by omega⟩
           have hlt4 : q' < D.length := by omega
           have hd4 : D[q']? = some 48 := by simpa using hd3
           have hix3 : ∀ h, (⟨D.toArray⟩ : ByteArray)[q']'h = 48 := fun h => by
            rw [List.getElem?_eq_getElem hlt4] at hd4
            exact Option.some.inj hd4
           have HD3 := Lib.hid hd4
           clear hd3 hd4
           go_wp2_with fail
           go_round
           case rel => exact ⟨q', by omega, by omega, by first | rfl | go_num | (congr 1; omega), by first | rfl | (congr 1; omega), fun i b hi hb => (by
            by_cases e : i = q'
            ·subst e; rw [HD3.out] at hb; exact (Option.some.inj hb).symm
            ·exact hZ i b (by omega) hb)⟩
           case measure => simp [intOf]
         ·have HC := Lib.hid (show Nm.core D = (D.drop j).take (q - j) by
           unfold Nm.core
           rw [HTL.out]
           refine Lib.trimRightB_take (D.drop j) 48 (q - j) (by rw [List.length_drop]; omega) (fun i b hi hb => ?_) (fun b h0 hb e => hcont ⟨by omega, ?_⟩)
           ·rw [List.getElem?_drop] at hb
            exact hZ (j + i) b (by omega) hb
           ·rw [List.getElem?_drop, show j + (q - j - 1) = q - 1 from by omega] at hb
            rw [hb, e])
          have hrl : ((D.drop j).take (q - j)).length = q - j := by rw [List.length_take, List.length_drop]; omega
          have HF := Lib.hid (show Nm.parse s.data.toList = Nm.made neg ((D.drop j).take (q - j)) (x0 + ((D.length : Int) - q)) by
           rw [HPR'.out]
           unfold Nm.refNum
           simp only
           rw [HC.out, HTL.out, hrl, List.length_drop, ← HX0.out]
           congr 1
           simp
           omega)
          have hways3 : q = j ∨ (j < q ∧ ∃ b, D[q - 1]? = some b ∧ b ≠ 48) := by
           by_cases h : j < q
           ·right
            have hq1 : q - 1 < D.length := by omega
            exact ⟨h, D[q - 1], List.getElem?_eq_getElem hq1, fun e => hcont ⟨h, by rw [List.getElem?_eq_getElem hq1, e]⟩⟩
           ·left; omega
          clear hcont hZ HPR' HX0 HTL
          obtain ⟨r0, r1, r2, r3⟩ := res_cells hG.below
          have hgs := hG.size
          have k1 : w.heap.size < wr.heap.size := by omega
          have h4 : Below w.heap.size w wr := ((Below.refl _ _).alloc (Nat.le_refl _) _).trans (hG.below.mono (Nat.le_succ _))
          rcases hways3 with rfl | ⟨hlt3, b3, hb3, hb348⟩
          ·go_wp2_with fail
           refine bodyPost_ret (v := .tuple #[numV (Nm.parse s.data.toList).1, .int .i64 (Nm.parse s.data.toList).2]) ?_ rfl ⟨rfl, ?_⟩
           ·rw [HF.out]
            simp [results, Tryz.results47, go_sem, r0, r1, r2, Nm.made, Nm.Num.zero]
           ·exact below_set (below_set (below_set h4 (Nat.le_refl _) _ _) (Nat.le_refl _) _ _) (Nat.le_refl _) _ _
          ·(try (exfalso; omega))
           all_goals
            obtain ⟨q', rfl⟩ : ∃ q', q = q' + 1 := ⟨q - 1, by omega⟩
            have hlt4 : q' < D.length := by omega
            have hd4 : D[q']? = some b3 := by simpa using hb3
            have hix3 : ∀ h, (⟨D.toArray⟩ : ByteArray)[q']'h = b3 := fun h => by
             rw [List.getElem?_eq_getElem hlt4] at hd4
             exact Option.some.inj hd4
            have bb3 : ((b3.toNat : Int) == 48) = false := Nm.byte_ne hb348
            clear hb3 hd4 hb348
            have hjq2 : ((j : Int) == (q' : Int) + 1) = false := by rw [beq_eq_false_iff_ne]; omega
            have hext : (⟨D.toArray⟩ : ByteArray).extract j (q' + 1) = ⟨((D.drop j).take (q' + 1 - j)).toArray⟩ := Lib.extract_mk D j (q' + 1)
            have hRne : (D.drop j).take (q' + 1 - j) ≠ [] := fun e => by rw [e] at hrl; simp at hrl; omega
            have hRd : ∀ c ∈ (D.drop j).take (q' + 1 - j), Nm.dig c = true := fun c hc => HDG'.out c (List.mem_of_mem_drop (List.mem_of_mem_take hc))
            have hRh := Nm.core_head D
            have hRl := Nm.core_last D
            rw [HC.out] at hRh hRl
            have hRlen : ((D.drop j).take (q' + 1 - j)).length ≤ 1000000 := by omega
            generalize (D.drop j).take (q' + 1 - j) = R at hext hRne hRd hRh hRl hRlen HF
            have HM := Lib.hid (mayNum_any neg R (x0 + ((D.length : Int) - (q' + 1))) · hRne hRd hRh hRl hRlen)
            clear hRd hRh hRl HC hrl
            have g0 := hG.c0
            have g1 := hG.c1
            have g2 := hG.c2
            have f1 := hG.fz 1
            have f2 := hG.fz 2
            go_wp2_with fail
            refine (HM.out _).mono ?_
            rintro e w2 ⟨rfl, hb2⟩
            obtain ⟨⟨m0, m1, m2⟩, hbw, hzw⟩ := hG.full R _ hb2
            obtain ⟨t0, t1, t2, t3⟩ := res_cells hbw
            have k2 : w.heap.size < w2.heap.size := by omega
            have h5 : Below w.heap.size w w2 := ((Below.refl _ _).alloc (Nat.le_refl _) _).trans (hbw.mono (Nat.le_succ _))
            clear hb2 hbw g0 g1 g2 f1 f2 r0 r1 r2 r3
            generalize hm : mayB R.length (x0 + ((D.length : Int) - (q' + 1))) = mb
            have HMB := Lib.hid (show Nm.parse s.data.toList = if mb then (⟨neg, R, x0 + ((D.length : Int) - (q' + 1))⟩, 0) else (Nm.Num.zero, 5) by
             rw [HF.out]
             unfold Nm.made
             rw [if_neg (by simpa using hRne), show Nm.mayN R.length (x0 + ((D.length : Int) - ((q' + 1 : Nat) : Int))) = mb from hm]
             rfl)
            clear hm HF HM
            cases mb
            ·go_wp2_with fail
             refine bodyPost_ret (v := .tuple #[numV (Nm.parse s.data.toList).1, .int .i64 (Nm.parse s.data.toList).2]) ?_ rfl ⟨rfl, ?_⟩
             ·rw [HMB.out]
              simp [results, Tryz.results47, go_sem, t0, t1, t2, Nm.Num.zero]
             ·exact below_set (below_set (below_set h5 (Nat.le_refl _) _ _) (Nat.le_refl _) _ _) (Nat.le_refl _) _ _
            ·go_wp2_with fail
             refine bodyPost_ret (v := .tuple #[numV (Nm.parse s.data.toList).1, .int .i64 (Nm.parse s.data.toList).2]) ?_ rfl ⟨rfl, ?_⟩
             ·rw [HMB.out]
              simp [results, Tryz.results47, go_sem, t0, t1, t2]
             ·exact below_set (below_set (below_set h5 (Nat.le_refl _) _ _) (Nat.le_refl _) _ _) (Nat.le_refl _) _ _
    ·go_wp2_with fail
     generalize hx0 : (-ex - (beh : Int)) = x0
     have hx1 : -1200000 ≤ x0 := by omega
     have hx2 : x0 ≤ 1200000 := by omega
     have HX0 := Lib.hid hx0
     clear hx0
     go_loop [15] (fun v15 => ∃ j : Nat, j ≤ D.length ∧ v15 = .int .i64 j ∧ ∀ (i : Nat) b, i < j → D[i]? = some b → b = 48) (fun v15 => D.length - (intOf v15).toNat)
     case atStart => exact ⟨0, Nat.zero_le _, rfl, fun i b hi => absurd hi (Nat.not_lt_zero _)⟩
     case round =>
      obtain ⟨j, hj, rfl, hz⟩ := hrel
      have hZ : Lib.Kept (∀ (i : Nat) b, i < j → D[i]? = some b → b = 48) := hz
      clear hz
      have hstop : j < D.length ∧ D[j]? = some 48 ∨ (∃ hne : ¬ (j < D.length ∧ D[j]? = some 48), True) := by
       by_cases h : j < D.length ∧ D[j]? = some 48
       ·exact .inl h
       ·exact .inr ⟨h, trivial⟩
      rcases hstop with ⟨hlt, hd⟩ | ⟨hne, -⟩
      ·have hix : ∀ h, (⟨D.toArray⟩ : ByteArray)[j]'h = 48 := fun h => by
        rw [List.getElem?_eq_getElem hlt] at hd
        exact Option.some.inj hd
       have HD := Lib.hid hd
       clear hd
       go_wp2_with fail
       go_round
       case rel => exact ⟨j + 1, by omega, by go_num, fun i b hi hb => (by
        by_cases e : i = j
        ·subst e; rw [HD.out] at hb; exact (Option.some.inj hb).symm
        ·exact hZ i b (by omega) hb)⟩
       case measure => simp [intOf]; omega
      ·have HTL := Lib.hid (Lib.trimLeftB_drop D 48 j hj hZ (fun b hb e => hne ⟨(by
        rcases Nat.lt_or_ge j D.length with h | h
        ·exact h
        ·rw [List.getElem?_eq_none h] at hb; cases hb), by rw [hb, e]⟩))
       have hways : (¬ j < D.length) ∨ (j < D.length ∧ ∃ b, D[j]? = some b ∧ b ≠ 48) := by
        by_cases h : j < D.length
        ·right
         refine ⟨h, D[j], List.getElem?_eq_getElem h, fun e => hne ⟨h, by rw [List.getElem?_eq_getElem h, e]⟩⟩
        ·exact .inl h
       clear hne hZ
       have hpass : Lib.Kept True := trivial
       rcases hways with hge | ⟨hlt, b, hb, hb48⟩
       rotate_left
       have hix : ∀ h, (⟨D.toArray⟩ : ByteArray)[j]'h = b := fun h => by
        rw [List.getElem?_eq_getElem hlt] at hb
        exact Option.some.inj hb
       have bb : ((b.toNat : Int) == 48) = false := Nm.byte_ne hb48
       clear hb hb48
       all_goals
        go_wp2_with fail
        go_loop [16, 10] (fun v16 v10 => ∃ q : Nat, j ≤ q ∧ q ≤ D.length ∧ v16 = .int .i64 q ∧ v10 = .int .i64 (x0 + ((D.length : Int) - q)) ∧ ∀ (i : Nat) b, q ≤ i → D[i]? = some b → b = 48) (fun v16 _ => (intOf v16).toNat)
        case atStart => exact ⟨D.length, hj, Nat.le_refl _, rfl, by congr 1; omega, fun i b hi hb => by rw [List.getElem?_eq_none hi] at hb; cases hb⟩
        case round =>
         obtain ⟨q, hjq, hq, rfl, rfl, hz⟩ := hrel
         have hZ : Lib.Kept (∀ (i : Nat) b, q ≤ i → D[i]? = some b → b = 48) := hz
         clear hz
         by_cases hcont : j < q ∧ D[q - 1]? = some 48
         ·obtain ⟨hlt3, hd3⟩ := hcont
          (try (exfalso; omega))
          all_goals
           obtain ⟨q', rfl⟩ : ∃ q', q = q' + 1 := ⟨q - 1, by omega⟩
           have hlt4 : q' < D.length := by omega
           have hd4 : D[q']? = some 48 := by simpa using hd3
           have hix3 : ∀ h, (⟨D.toArray⟩ : ByteArray)[q']'h = 48 := fun h => by
            rw [List.getElem?_eq_getElem hlt4] at hd4
            exact Option.some.inj hd4
           have HD3 := Lib.hid hd4
           clear hd3 hd4
           go_wp2_with fail
           go_round
           case rel => exact ⟨q', by omega, by omega, by first | rfl | go_num | (congr 1; omega), by first | rfl | (congr 1; omega), fun i b hi hb => (by
            by_cases e : i = q'
            ·subst e; rw [HD3.out] at hb; exact (Option.some.inj hb).symm
            ·exact hZ i b (by omega) hb)⟩
           case measure => simp [intOf]
         ·have HC := Lib.hid (show Nm.core D = (D.drop j).take (q - j) by
           unfold Nm.core
           rw [HTL.out]
           refine Lib.trimRightB_take (D.drop j) 48 (q - j) (by rw [List.length_drop]; omega) (fun i b hi hb => ?_) (fun b h0 hb e => hcont ⟨by omega, ?_⟩)
           ·rw [List.getElem?_drop] at hb
            exact hZ (j + i) b (by omega) hb
           ·rw [List.getElem?_drop, show j + (q - j - 1) = q - 1 from by omega] at hb
            rw [hb, e])
          have hrl : ((D.drop j).take (q - j)).length = q - j := by rw [List.length_take, List.length_drop]; omega
          have HF := Lib.hid (show Nm.parse s.data.toList = Nm.made neg ((D.drop j).take (q - j)) (x0 + ((D.length : Int) - q)) by
           rw [HPR'.out]
           unfold Nm.refNum
           simp only
           rw [HC.out, HTL.out, hrl, List.length_drop, ← HX0.out]
           congr 1
           simp
           omega)
          have hways3 : q = j ∨ (j < q ∧ ∃ b, D[q - 1]? = some b ∧ b ≠ 48) := by
           by_cases h : j < q
           ·right
            have hq1 : q - 1 < D.length := by omega
            exact ⟨h, D[q - 1], List.getElem?_eq_getElem hq1, fun e => hcont ⟨h, by rw [List.getElem?_eq_getElem hq1, e]⟩⟩
           ·left; omega
          clear hcont hZ HPR' HX0 HTL
          obtain ⟨r0, r1, r2, r3⟩ := res_cells hG.below
          have hgs := hG.size
          have k1 : w.heap.size < wr.heap.size := by omega
          have h4 : Below w.heap.size w wr := ((Below.refl _ _).alloc (Nat.le_refl _) _).trans (hG.below.mono (Nat.le_succ _))
          rcases hways3 with rfl | ⟨hlt3, b3, hb3, hb348⟩
          ·go_wp2_with fail
           refine bodyPost_ret (v := .tuple #[numV (Nm.parse s.data.toList).1, .int .i64 (Nm.parse s.data.toList).2]) ?_ rfl ⟨rfl, ?_⟩
           ·rw [HF.out]
            simp [results, Tryz.results47, go_sem, r0, r1, r2, Nm.made, Nm.Num.zero]
           ·exact below_set (below_set (below_set h4 (Nat.le_refl _) _ _) (Nat.le_refl _) _ _) (Nat.le_refl _) _ _
          ·(try (exfalso; omega))
           all_goals
            obtain ⟨q', rfl⟩ : ∃ q', q = q' + 1 := ⟨q - 1, by omega⟩
            have hlt4 : q' < D.length := by omega
            have hd4 : D[q']? = some b3 := by simpa using hb3
            have hix3 : ∀ h, (⟨D.toArray⟩ : ByteArray)[q']'h = b3 := fun h => by
             rw [List.getElem?_eq_getElem hlt4] at hd4
             exact Option.some.inj hd4
            have bb3 : ((b3.toNat : Int) == 48) = false := Nm.byte_ne hb348
            clear hb3 hd4 hb348
            have hjq2 : ((j : Int) == (q' : Int) + 1) = false := by rw [beq_eq_false_iff_ne]; omega
            have hext : (⟨D.toArray⟩ : ByteArray).extract j (q' + 1) = ⟨((D.drop j).take (q' + 1 - j)).toArray⟩ := Lib.extract_mk D j (q' + 1)
            have hRne : (D.drop j).take (q' + 1 - j) ≠ [] := fun e => by rw [e] at hrl; simp at hrl; omega
            have hRd : ∀ c ∈ (D.drop j).take (q' + 1 - j), Nm.dig c = true := fun c hc => HDG'.out c (List.mem_of_mem_drop (List.mem_of_mem_take hc))
            have hRh := Nm.core_head D
            have hRl := Nm.core_last D
            rw [HC.out] at hRh hRl
            have hRlen : ((D.drop j).take (q' + 1 - j)).length ≤ 1000000 := by omega
            generalize (D.drop j).take (q' + 1 - j) = R at hext hRne hRd hRh hRl hRlen HF
            have HM := Lib.hid (mayNum_any neg R (x0 + ((D.length : Int) - (q' + 1))) · hRne hRd hRh hRl hRlen)
            clear hRd hRh hRl HC hrl
            have g0 := hG.c0
            have g1 := hG.c1
            have g2 := hG.c2
            have f1 := hG.fz 1
            have f2 := hG.fz 2
            go_wp2_with fail
            refine (HM.out _).mono ?_
            rintro e w2 ⟨rfl, hb2⟩
            obtain ⟨⟨m0, m1, m2⟩, hbw, hzw⟩ := hG.full R _ hb2
            obtain ⟨t0, t1, t2, t3⟩ := res_cells hbw
            have k2 : w.heap.size < w2.heap.size := by omega
            have h5 : Below w.heap.size w w2 := ((Below.refl _ _).alloc (Nat.le_refl _) _).trans (hbw.mono (Nat.le_succ _))
            clear hb2 hbw g0 g1 g2 f1 f2 r0 r1 r2 r3
            generalize hm : mayB R.length (x0 + ((D.length : Int) - (q' + 1))) = mb
            have HMB := Lib.hid (show Nm.parse s.data.toList = if mb then (⟨neg, R, x0 + ((D.length : Int) - (q' + 1))⟩, 0) else (Nm.Num.zero, 5) by
             rw [HF.out]
             unfold Nm.made
             rw [if_neg (by simpa using hRne), show Nm.mayN R.length (x0 + ((D.length : Int) - ((q' + 1 : Nat) : Int))) = mb from hm]
             rfl)
            clear hm HF HM
            cases mb
            ·go_wp2_with fail
             refine bodyPost_ret (v := .tuple #[numV (Nm.parse s.data.toList).1, .int .i64 (Nm.parse s.data.toList).2]) ?_ rfl ⟨rfl, ?_⟩
             ·rw [HMB.out]
              simp [results, Tryz.results47, go_sem, t0, t1, t2, Nm.Num.zero]
             ·exact below_set (below_set (below_set h5 (Nat.le_refl _) _ _) (Nat.le_refl _) _ _) (Nat.le_refl _) _ _
            ·go_wp2_with fail
             refine bodyPost_ret (v := .tuple #[numV (Nm.parse s.data.toList).1, .int .i64 (Nm.parse s.data.toList).2]) ?_ rfl ⟨rfl, ?_⟩
             ·rw [HMB.out]
              simp [results, Tryz.results47, go_sem, t0, t1, t2]
             ·exact below_set (below_set (below_set h5 (Nat.le_refl _) _ _) (Nat.le_refl _) _ _) (Nat.le_refl _) _ _
 ·have HP := Lib.hid (show Nm.parse s.data.toList = (Nm.Num.zero, 1) by
   unfold Nm.parse Nm.parseOf
   rw [if_neg (fun h => hok (by have := hse.1 h; simp only [Prod.mk.injEq] at this; exact ⟨this.2, this.1⟩))])
  have hr : ok = false ∨ (ok = true ∧ 0 < rem.length) := by
   cases ok
   ·exact .inl rfl
   ·right
    refine ⟨rfl, ?_⟩
    rcases rem with _ | ⟨c, r⟩
    ·exact absurd ⟨rfl, rfl⟩ hok
    ·simp
  clear hok hse
  rcases hr with rfl | ⟨rfl, hr⟩
  all_goals
   go_wp2_with fail
   refine bodyPost_ret (v := .tuple #[numV (Nm.parse s.data.toList).1, .int .i64 (Nm.parse s.data.toList).2]) ?_ rfl ⟨rfl, (Below.refl _ _).alloc (Nat.le_refl _) _⟩
   rw [HP.out]
   simp [results, Tryz.results47, go_sem, Nm.Num.zero]

end Go.Proofs.YtolkfgikomminaaGreatDoor

