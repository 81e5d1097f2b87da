/- The walks of layer 10 (shape): the program's Kids. (By gen_ch.py.) -/
import Derived.Test.YtfolfibembplbaaGreatDoorCj
namespace Go.Proofs.YtfolfibembplbaaGreatDoor
open Go.RowKit Js

theorem itoa10_any (j : Nat) (w : World) (hT : Tab w) (h : j ≤ 1000000) : Calls Tryz.prog 35 #[.int .i64 j] w fun e w' => e = .returned (.string ⟨(Lib.decDigits j).toArray⟩) ∧ Below w.heap.size w w' := by
  refine (Tryz.strconv_Itoa (j : Int) (by omega) (by omega) w hT).mono ?_
  rintro e w1 ⟨rfl, k4, os4, rfl⟩
  exact ⟨by rw [Lib.itoa_nonneg], below_grow w k4 os4⟩

/-- How far numbered has come: a row of the call's own, so many members of it written. -/
structure Rowing10 (w : World) (l : List Vl) (g j : Nat) (cs : List Value) (wr : World) : Prop where
  hj : j ≤ l.length
  blk : Blk wr g 50 cs.toArray
  len : cs.length = l.length * 9
  below : Below w.heap.size w wr
  hg : w.heap.size ≤ g
  items : ∀ (i : Nat) v, i < j → l[i]? = some v → ∃ y : Array Value, y.size = 8 ∧ v.In w.cell? (.agg y) ∧ cs[i * 9]? = some (.string ⟨(Lib.decDigits i).toArray⟩) ∧ ∀ (k : Nat) u, y[k]? = some u → cs[i * 9 + 1 + k]? = some u
section
variable {w : World} {l : List Vl} {g j : Nat} {cs : List Value} {wr w' : World}
theorem Rowing10.on (h : Rowing10 w l g j cs wr) (hb : Below wr.heap.size wr w') : Rowing10 w l g j cs w' :=
  ⟨h.hj, h.blk.on hb, h.len, h.below.trans (hb.mono h.below.size), h.hg, h.items⟩
/-- One member more. -/
theorem Rowing10.next (h : Rowing10 w l g j cs wr) (hlt : j < l.length) {y : Array Value} (hys : y.size = 8) (hy : (l[j]'hlt).In w.cell? (.agg y)) :
    Rowing10 w l g (j + 1) (putL cs (j * 9) (.string ⟨(Lib.decDigits j).toArray⟩ :: y.toList)) (wr.setCells g (j * 9) (.string ⟨(Lib.decDigits j).toArray⟩ :: y.toList)) := by
  have hyl : (Value.string ⟨(Lib.decDigits j).toArray⟩ :: y.toList).length = 9 := by simp [hys]
  have hcl : j * 9 + 9 ≤ cs.length := by have := h.len; omega
  refine ⟨hlt, h.blk.setCells _, by rw [putL_length]; exact h.len, below_setCells h.hg _ h.below, h.hg, fun i v hi hv => ?_⟩
  by_cases hil : i < j
  · obtain ⟨z, h1, h2, h3, h4⟩ := h.items i v hil hv
    refine ⟨z, h1, h2, ?_, fun k u hu => ?_⟩
    · rw [putL_off _ _ _ (.inl (by omega))]; exact h3
    · have hk : k < 8 := by have := (Array.getElem?_eq_some_iff.1 hu).1; omega
      rw [putL_off _ _ _ (.inl (by omega))]; exact h4 k u hu
  · have hi0 : i = j := by omega
    subst hi0
    rw [List.getElem?_eq_getElem hlt] at hv
    injection hv with hv
    subst hv
    refine ⟨y, hys, hy, ?_, fun k u hu => ?_⟩
    · have := putL_at (.string ⟨(Lib.decDigits i).toArray⟩ :: y.toList) cs (i * 9) (i := 0) (u := .string ⟨(Lib.decDigits i).toArray⟩) (by omega) rfl
      simpa using this
    · have := putL_at (.string ⟨(Lib.decDigits i).toArray⟩ :: y.toList) cs (i * 9) (i := k + 1) (u := u) (by omega) (by simpa using hu)
      rw [show i * 9 + 1 + k = i * 9 + (k + 1) by omega]
      exact this
theorem Rowing10.there (h : Rowing10 w l g j cs wr) (hlt : j < l.length) : wr.there g (j * 9) 9 := fun k hk => by
  have := h.len
  refine ⟨?_, h.blk.frozen _⟩
  rw [h.blk.cell, List.getElem?_toArray, List.getElem?_eq_getElem (by omega)]; rfl
/-- The members as they lie. -/
theorem Rowing10.fin (h : Rowing10 w l g l.length cs wr) : SlM wr.cell? (some ⟨g, 0, none⟩) (Sh.numbered l) := fun i p hi => by
  obtain ⟨v, hv, rfl⟩ := Sh.numbered_get hi
  obtain ⟨y, h1, h2, h3, h4⟩ := h.items i v (List.getElem?_eq_some_iff.1 hv).1 hv
  refine ⟨g, 0, _, rfl, In.keep (le_below h.below) _ _ h2, ?_, fun k u hu => ?_⟩
  · rw [Nat.zero_add, h.blk.cell, List.getElem?_toArray]; exact h3
  · rw [Nat.zero_add, h.blk.cell, List.getElem?_toArray]; exact h4 k u (by simpa [Value.cells] using hu)
end
/-- A block, as a world has it. -/
def HasBlk10 (g : Nat) (V : Array Value) (W : World) : Prop := Blk W g 28 V

set_option linter.unusedVariables false in
set_option linter.unusedSimpArgs false in
set_option maxRecDepth 100000 in
set_option maxHeartbeats 4000000 in
theorem numbered10_any (l : List Vl) (A : Option Addr) (c : Nat) (w : World) (hT : Tab w) (hs : SlL w.cell? A l) (hl : l.length ≤ c) (hm : c ≤ maxLen) (hn : l.length ≤ 1000000) :
    Calls Tryz.prog 27 #[.slice A l.length c] w (KidsE (Sh.numbered l) w) := by
  have HS := Lib.hid hs
  have HT := Lib.hid hT
  unfold maxLen at hm
  obtain ⟨i0, hi0, hz0, hz1, hz2⟩ := infoM'
  have hmk : ∀ W : World, (Instr.makeSlice 26 (.int .i64 (l.length : Int)) (.int .i64 (l.length : Int))).run Tryz.prog W = .ok (.slice (some ⟨W.heap.size, 0, none⟩) l.length l.length) (W.alloc (.cells (madeCells zero9 (l.length * 9)) 50)) := fun W => by
    have := run_make (P := Tryz.prog) W 26 50 i0 (.agg zero9) Tryz.underlying26 hi0 hz0 .i64 .i64 l.length l.length (by omega) (Int.le_refl _) (by rw [hz2]; omega) (by omega)
    rw [hz1] at this
    simp only [Int.toNat_natCast] at this
    exact this
  have HROW := Lib.hid (show Rowing10 w l w.heap.size 0 (madeCells zero9 (l.length * 9)).toList (w.alloc (.cells (madeCells zero9 (l.length * 9)) 50)) from
    ⟨Nat.zero_le _, by simpa using Blk.new w 50 (madeCells zero9 (l.length * 9)), by rw [Array.length_toList, size_madeCells], (Below.refl _ _).alloc (Nat.le_refl _) _, Nat.le_refl _, fun i v h => absurd h (Nat.not_lt_zero _)⟩)
  clear hs hT
  go_enter Tryz.func27, Tryz.ntmps27
  go_upto_region 2 with (fail)
  generalize w.alloc (.cells (madeCells zero9 (l.length * 9)) 50) = w1 at *
  obtain ⟨g, hg⟩ : ∃ g, w.heap.size = g := ⟨_, rfl⟩
  have HROW1 := Lib.hid (show Rowing10 w l g 0 (madeCells zero9 (l.length * 9)).toList w1 by rw [← hg]; exact HROW.out)
  rw [hg]
  clear HROW hmk hg hi0 hz0 hz1 hz2
  go_wp2_with fail
  go_loopw [11] (fun i wr => ∃ (j : Nat) (cs : List Value), i = .int .i64 j ∧ Rowing10 w l g j cs wr) (fun i _ => l.length - (intOf i).toNat)
  case atStart => exact ⟨0, _, rfl, HROW1.out⟩
  case round =>
    obtain ⟨j, cs, rfl, hR⟩ := hrel
    have HR := Lib.hid hR
    have hj := hR.hj
    clear hR HROW1
    by_cases hlt : j < l.length
    · obtain ⟨g0, o0, y, rfl, hy, hc⟩ := HS.out j _ (List.getElem?_eq_getElem hlt)
      obtain ⟨y_1, y_2, y_3, y_4, y_5, y_6, y_7, y_8, y_9, y_a, y_b, y_c, rfl⟩ := In.cells hy
      obtain ⟨e0, e1, e2, e3, e4, e5, e6, e7⟩ := (hc.keep (le_below HR.out.below)).eight
      have hgl := World.block_lt_of_cell? _ _ e0
      have HB2 := Lib.hid ((Below.refl wr.heap.size wr).alloc (Nat.le_refl _) (.cells #[.int .i64 y_1, .bool y_2, .bool y_3, .string ⟨y_4.toArray⟩, .int .i64 y_5, .string ⟨y_6.toArray⟩, .slice y_7 y_8 y_9, .slice y_a y_b y_c] 28))
      have HR2 := Lib.hid (HR.out.on HB2.out)
      have HK2 := Lib.hid (show HasBlk10 wr.heap.size #[.int .i64 y_1, .bool y_2, .bool y_3, .string ⟨y_4.toArray⟩, .int .i64 y_5, .string ⟨y_6.toArray⟩, .slice y_7 y_8 y_9, .slice y_a y_b y_c] (wr.alloc (.cells #[.int .i64 y_1, .bool y_2, .bool y_3, .string ⟨y_4.toArray⟩, .int .i64 y_5, .string ⟨y_6.toArray⟩, .slice y_7 y_8 y_9, .slice y_a y_b y_c] 28)) from Blk.new wr 28 #[.int .i64 y_1, .bool y_2, .bool y_3, .string ⟨y_4.toArray⟩, .int .i64 y_5, .string ⟨y_6.toArray⟩, .slice y_7 y_8 y_9, .slice y_a y_b y_c])
      have HGN := Lib.hid (show ¬ wr.heap.size = g by have := HR.out.blk.lt; omega)
      have HY := Lib.hid hy
      have hjj : (j : Int) < (l.length : Int) := by omega
      clear hy hc
      go_upto_region 5 with (fail)
      generalize wr.alloc (.cells #[.int .i64 y_1, .bool y_2, .bool y_3, .string ⟨y_4.toArray⟩, .int .i64 y_5, .string ⟨y_6.toArray⟩, .slice y_7 y_8 y_9, .slice y_a y_b y_c] 28) = w2 at *
      generalize wr.heap.size = g2 at *
      have HIT := Lib.hid (fun (W : World) (h : Below w2.heap.size w2 W) => itoa10_any j W (HT.out.keep (HR2.out.below.trans (h.mono HR2.out.below.size))) (by omega))
      clear e0 e1 e2 e3 e4 e5 e6 e7 hgl
      refine wp_region_held_drew (S := HasBlk10 g2 #[.int .i64 y_1, .bool y_2, .bool y_3, .string ⟨y_4.toArray⟩, .int .i64 y_5, .string ⟨y_6.toArray⟩, .slice y_7 y_8 y_9, .slice y_a y_b y_c]) (by kernel_rfl) (show HasBlk10 g2 _ w2.drew from HK2.out) (fun ht => ?_)
      refine wpAnyH_take (i := 0) (oi := ⟨some _, _, _, _, _, _⟩) (v := (.slice (some ⟨g, 0, none⟩) l.length l.length)) rfl (by kernel_rfl) (by kernel_rfl) (by kernel_rfl) (fun _ _ _ h => h) (Or.inl ⟨by rfl, ?_⟩) ht ?_
      · intro W9 hSw
        go_simp
      try simp only [Act.put, List.setIfInBounds_toArray, List.set_cons_zero, List.set_cons_succ]
      refine wpAnyH_take (i := 1) (oi := ⟨some _, _, _, _, _, _⟩) (v := (.int .i64 j)) rfl (by kernel_rfl) (by kernel_rfl) (by kernel_rfl) (fun _ _ _ h => h) (Or.inl ⟨by rfl, ?_⟩) ht ?_
      · intro W9 hSw
        go_simp
      try simp only [Act.put, List.setIfInBounds_toArray, List.set_cons_zero, List.set_cons_succ]
      refine wpAnyH_take (i := 2) (oi := ⟨some _, _, _, _, _, _⟩) (v := (.int .i64 j)) rfl (by kernel_rfl) (by kernel_rfl) (by kernel_rfl) (fun _ _ _ h => h) (Or.inl ⟨by rfl, ?_⟩) ht ?_
      · intro W9 hSw
        go_simp
      try simp only [Act.put, List.setIfInBounds_toArray, List.set_cons_zero, List.set_cons_succ]
      refine wpAnyH_take (i := 4) (oi := ⟨some _, _, _, _, _, _⟩) (v := (.agg #[.int .i64 y_1, .bool y_2, .bool y_3, .string ⟨y_4.toArray⟩, .int .i64 y_5, .string ⟨y_6.toArray⟩, .slice y_7 y_8 y_9, .slice y_a y_b y_c])) rfl (by kernel_rfl) (by kernel_rfl) (by kernel_rfl) (fun _ _ _ h => h) (Or.inl ⟨by rfl, ?_⟩) ht ?_
      · intro W9 hSw
        obtain ⟨e0, e1, e2, e3, e4, e5, e6, e7⟩ := (show Blk W9 g2 28 _ from hSw).eight
        go_simp
      try simp only [Act.put, List.setIfInBounds_toArray, List.set_cons_zero, List.set_cons_succ]
      refine wpAnyH_ready (rs := [3]) (by kernel_rfl) (by simp) ?_
      refine AllReadyH.cons (o := ⟨some _, _, _, _, _, _⟩) rfl (fun K hK => ?_) AllReadyH.nil
      go_simp
      refine (HIT.out _ (Below.refl _ _).drew).mono ?_
      rintro e3 w3 ⟨rfl, hb3⟩
      have hb23 := (Below.refl w2.heap.size w2).drew.trans (show Below w2.heap.size w2.drew w3 from hb3)
      have hs : HasBlk10 g2 #[.int .i64 y_1, .bool y_2, .bool y_3, .string ⟨y_4.toArray⟩, .int .i64 y_5, .string ⟨y_6.toArray⟩, .slice y_7 y_8 y_9, .slice y_a y_b y_c] w3 := (show Blk w2 g2 28 _ from HK2.out).on hb23
      have HR3 := Lib.hid (HR2.out.on hb23)
      clear hb3 hb23 ht
      go_wp2_with fail
      refine hK.out _ _ hs (fun ht => ?_)
      clear hK K hs
      try simp only [Act.put, List.setIfInBounds_toArray, List.set_cons_zero, List.set_cons_succ]
      refine wpAnyH_take (i := 5) (oi := ⟨some _, _, _, _, _, _⟩) (v := (.agg #[.string ⟨(Lib.decDigits j).toArray⟩, .int .i64 y_1, .bool y_2, .bool y_3, .string ⟨y_4.toArray⟩, .int .i64 y_5, .string ⟨y_6.toArray⟩, .slice y_7 y_8 y_9, .slice y_a y_b y_c])) rfl (by kernel_rfl) (by kernel_rfl) (by kernel_rfl) (fun _ _ _ h => h) (Or.inl ⟨by rfl, ?_⟩) ht ?_
      · intro W9 hSw
        go_simp
      try simp only [Act.put, List.setIfInBounds_toArray, List.set_cons_zero, List.set_cons_succ]
      refine wpAnyH_take (i := 6) (oi := ⟨some _, _, _, _, _, _⟩) (v := (.pointer (some ⟨g, j * 9, none⟩))) rfl (by kernel_rfl) (by kernel_rfl) (by kernel_rfl) (fun _ _ _ h => h) (Or.inl ⟨by rfl, ?_⟩) ht ?_
      · intro W9 hSw
        go_simp
      try simp only [Act.put, List.setIfInBounds_toArray, List.set_cons_zero, List.set_cons_succ]
      have HTH := Lib.hid (HR3.out.there hlt)
      have HNX := HR3.out.next hlt (y := #[.int .i64 y_1, .bool y_2, .bool y_3, .string ⟨y_4.toArray⟩, .int .i64 y_5, .string ⟨y_6.toArray⟩, .slice y_7 y_8 y_9, .slice y_a y_b y_c]) rfl HY.out
      obtain ⟨w5, hw5⟩ : ∃ W, W = w3.setCells g (j * 9) (#[.string ⟨(Lib.decDigits j).toArray⟩, .int .i64 y_1, .bool y_2, .bool y_3, .string ⟨y_4.toArray⟩, .int .i64 y_5, .string ⟨y_6.toArray⟩, .slice y_7 y_8 y_9, .slice y_a y_b y_c] : Array Value).toList := ⟨_, rfl⟩
      have hk5 : HasBlk10 g2 #[.int .i64 y_1, .bool y_2, .bool y_3, .string ⟨y_4.toArray⟩, .int .i64 y_5, .string ⟨y_6.toArray⟩, .slice y_7 y_8 y_9, .slice y_a y_b y_c] w5 := by
        rw [hw5]
        exact (heap_setCells _ _ _ HGN.out).trans (show Blk w3 g2 28 _ from ht)
      rw [← hw5] at HNX
      have HNX := Lib.hid HNX
      have HW5 := Lib.hid hw5
      clear hw5
      refine wpAnyH_ready (rs := [7]) (by kernel_rfl) (by simp) ?_
      refine AllReadyH.cons (o := ⟨none, _, _, _, _, _⟩) rfl (fun K hK => ?_) AllReadyH.nil
      rw [if_pos (by rfl)]
      refine wp_store_mid _ _ _ rfl g (j * 9) #[.string ⟨(Lib.decDigits j).toArray⟩, .int .i64 y_1, .bool y_2, .bool y_3, .string ⟨y_4.toArray⟩, .int .i64 y_5, .string ⟨y_6.toArray⟩, .slice y_7 y_8 y_9, .slice y_a y_b y_c] rfl rfl HTH.out (by kernel_rfl) (by simp [Value.oneCell']) ?_
      rw [← HW5.out]
      refine hK.out _ _ hk5 (fun ht5 => ?_)
      clear hK K ht hk5 ht5
      try simp only [Act.put, List.setIfInBounds_toArray, List.set_cons_zero, List.set_cons_succ]
      refine wpAnyH_done (by kernel_rfl) ?_ _
      go_wp2_with fail
      go_roundw
      case rel => exact ⟨j + 1, _, by go_num, HNX.out⟩
      case measure => simp [intOf]; omega
    · obtain rfl : j = l.length := by omega
      go_wp2_with fail
      go_ret
      exact ⟨_, l.length, by rw [Sh.numbered_len]; rfl, HR.out.fin, by rw [Sh.numbered_len]; exact Nat.le_refl _, by unfold maxLen; omega, HR.out.below⟩

theorem Sh.errV_zero : errV ((0 : Nat) : Int) = .nilIface := rfl

set_option linter.unusedVariables false in
set_option linter.unusedSimpArgs false in
set_option maxRecDepth 100000 in
set_option maxHeartbeats 4000000 in
theorem kids10_any : KidsT Tab := fun nm v x w hT hn hf hx h0 => by
  obtain ⟨k, b, n, s, l, m⟩ := v
  have hx0 := hx
  obtain ⟨A, e, B, d, rfl, q1, q2, q3, q4, q5, q6⟩ := In.form hx
  have hb1 := (Below.refl w.heap.size w).alloc (Nat.le_refl _) (.cells #[.int .i64 k, .bool b, .bool n.neg, .string ⟨n.digits.toArray⟩, .int .i64 n.exp, .string ⟨s.toArray⟩, .slice A l.length e, .slice B m.length d] 28)
  have HB := Lib.hid hb1
  have HK := Lib.hid (Blk.new w 28 #[.int .i64 k, .bool b, .bool n.neg, .string ⟨n.digits.toArray⟩, .int .i64 n.exp, .string ⟨s.toArray⟩, .slice A l.length e, .slice B m.length d])
  have HCH := Lib.hid (check_any nm (.mk k b n s l m) _ (w.alloc (.cells #[.int .i64 k, .bool b, .bool n.neg, .string ⟨n.digits.toArray⟩, .int .i64 n.exp, .string ⟨s.toArray⟩, .slice A l.length e, .slice B m.length d] 28)) (hT.keep hb1) hn hf (In.keep (le_below hb1) _ _ hx0))
  rw [h0, Sh.errV_zero] at HCH
  have HSG := Lib.hid (single_any nm)
  have HX := Lib.hid hx0
  have HL := Lib.hid (show SlL w.cell? A l from q5)
  have HM := Lib.hid (show SlM w.cell? B m from q6)
  have HT := Lib.hid hT
  have HFL := Lib.hid (Sh.fine_len hf)
  have HQ2 := Lib.hid q2
  have HQ4 := Lib.hid q4
  unfold maxLen at q2 q4
  clear hx hx0 hb1 h0 hT hf q5 q6
  by_cases h8 : Sh.kw nm = 8
  · have HF := Lib.hid (show Sh.kids nm (.mk k b n s l m) = [([], .mk k b n s l m)] by rw [Sh.kids_mk, if_pos h8])
    rw [show Sh.single nm = true from decide_eq_true h8] at HSG
    clear h8
    go_enter Tryz.func12, Tryz.ntmps12
    go_upto_region 1 with (fail)
    generalize w.alloc (.cells #[.int .i64 k, .bool b, .bool n.neg, .string ⟨n.digits.toArray⟩, .int .i64 n.exp, .string ⟨s.toArray⟩, .slice A l.length e, .slice B m.length d] 28) = w1 at *
    obtain ⟨a0, a1, a2, a3, a4, a5, a6, a7⟩ := HK.out.eight
    have hkl := HK.out.lt
    go_wp2_with fail
    refine HCH.out.mono ?_
    rintro e2 w2 ⟨rfl, hb2⟩
    have HB2 := Lib.hid (HB.out.trans (hb2.mono HB.out.size))
    have HK2 := Lib.hid (HK.out.on hb2)
    clear hb2 a0 a1 a2 a3 a4 a5 a6 a7 hkl
    go_wp2_with fail
    refine (HSG.out _).mono ?_
    rintro e3 w3 ⟨rfl, rfl⟩
    obtain ⟨a0, a1, a2, a3, a4, a5, a6, a7⟩ := HK2.out.eight
    have hkl := HK2.out.lt
    go_wp2_with fail
    go_ret
    rw [HF.out]
    exact ⟨_, 1, rfl, (slM_one10 (S := fun _ => True) (Blk.new w3 50 #[.string ⟨([] : List UInt8).toArray⟩, .int .i64 k, .bool b, .bool n.neg, .string ⟨n.digits.toArray⟩, .int .i64 n.exp, .string ⟨s.toArray⟩, .slice A l.length e, .slice B m.length d]) trivial (In.keep (fun p u hp => on_some.2 ⟨trivial, hp⟩) _ _ (In.keep (le_below (HB2.out.alloc HB2.out.size _)) _ _ HX.out))).keep (on_all _ _), Nat.le_refl _, by unfold maxLen; omega, HB2.out.alloc HB2.out.size _⟩
  rw [show Sh.single nm = false from decide_eq_false h8] at HSG
  by_cases h9 : Sh.kw nm = 9
  · have HF := Lib.hid (show Sh.kids nm (.mk k b n s l m) = m by rw [Sh.kids_mk, if_neg h8, if_pos h9])
    have HN9 := Sh.kw_mem h9 (by decide)
    clear h8 h9
    simp only [Sh.kws, List.mem_cons, Prod.mk.injEq, List.not_mem_nil, or_false, Nat.reduceEqDiff, and_false, false_or, and_true] at HN9
    rcases HN9 with rfl | rfl
    all_goals
      go_enter Tryz.func12, Tryz.ntmps12
      go_upto_region 1 with (fail)
      generalize w.alloc (.cells #[.int .i64 k, .bool b, .bool n.neg, .string ⟨n.digits.toArray⟩, .int .i64 n.exp, .string ⟨s.toArray⟩, .slice A l.length e, .slice B m.length d] 28) = w1 at *
      obtain ⟨a0, a1, a2, a3, a4, a5, a6, a7⟩ := HK.out.eight
      have hkl := HK.out.lt
      go_wp2_with fail
      refine HCH.out.mono ?_
      rintro e2 w2 ⟨rfl, hb2⟩
      have HB2 := Lib.hid (HB.out.trans (hb2.mono HB.out.size))
      have HK2 := Lib.hid (HK.out.on hb2)
      clear hb2 a0 a1 a2 a3 a4 a5 a6 a7 hkl
      go_wp2_with fail
      refine (HSG.out _).mono ?_
      rintro e3 w3 ⟨rfl, rfl⟩
      obtain ⟨a0, a1, a2, a3, a4, a5, a6, a7⟩ := HK2.out.eight
      have hkl := HK2.out.lt
      go_wp2_with fail
      go_ret
      rw [HF.out]
      exact ⟨B, d, rfl, HM.out.keep (le_below HB2.out), q3, HQ4.out, HB2.out⟩
  by_cases h10 : Sh.kw nm = 10
  · have HF := Lib.hid (show Sh.kids nm (.mk k b n s l m) = Sh.numbered l by rw [Sh.kids_mk, if_neg h8, if_neg h9, if_pos h10])
    have HN9 := Sh.kw_mem h10 (by decide)
    clear h8 h9 h10
    simp only [Sh.kws, List.mem_cons, Prod.mk.injEq, List.not_mem_nil, or_false, Nat.reduceEqDiff, and_false, false_or, and_true] at HN9
    rcases HN9 with rfl | rfl | rfl
    all_goals
      go_enter Tryz.func12, Tryz.ntmps12
      go_upto_region 1 with (fail)
      generalize w.alloc (.cells #[.int .i64 k, .bool b, .bool n.neg, .string ⟨n.digits.toArray⟩, .int .i64 n.exp, .string ⟨s.toArray⟩, .slice A l.length e, .slice B m.length d] 28) = w1 at *
      obtain ⟨a0, a1, a2, a3, a4, a5, a6, a7⟩ := HK.out.eight
      have hkl := HK.out.lt
      go_wp2_with fail
      refine HCH.out.mono ?_
      rintro e2 w2 ⟨rfl, hb2⟩
      have HB2 := Lib.hid (HB.out.trans (hb2.mono HB.out.size))
      have HK2 := Lib.hid (HK.out.on hb2)
      clear hb2 a0 a1 a2 a3 a4 a5 a6 a7 hkl
      go_wp2_with fail
      refine (HSG.out _).mono ?_
      rintro e3 w3 ⟨rfl, rfl⟩
      obtain ⟨a0, a1, a2, a3, a4, a5, a6, a7⟩ := HK2.out.eight
      have hkl := HK2.out.lt
      go_wp2_with fail
      refine (numbered10_any l A e w3 (HT.out.keep HB2.out) (HL.out.keep (le_below HB2.out)) q1 HQ2.out HFL.out.1).mono ?_
      rintro e4 w4 ⟨A4, c4, rfl, h2, h3, h4, hb4⟩
      have H2 := Lib.hid h2
      have H3 := Lib.hid h3
      have H4 := Lib.hid h4
      have HB4 := Lib.hid (HB2.out.trans (hb4.mono HB2.out.size))
      clear h2 h3 h4 hb4
      go_wp2_with fail
      go_ret
      rw [HF.out]
      exact ⟨A4, c4, rfl, H2.out, H3.out, H4.out, HB4.out⟩
  have HF := Lib.hid (show Sh.kids nm (.mk k b n s l m) = [] by rw [Sh.kids_mk, if_neg h8, if_neg h9, if_neg h10])
  have e1 : (nm == [112, 114, 111, 112, 101, 114, 116, 105, 101, 115]) = false := by rw [beq_eq_false_iff_ne]; rintro rfl; exact h9 (by decide)
  have e2 : (nm == [36, 100, 101, 102, 115]) = false := by rw [beq_eq_false_iff_ne]; rintro rfl; exact h9 (by decide)
  have e3 : (nm == [97, 108, 108, 79, 102]) = false := by rw [beq_eq_false_iff_ne]; rintro rfl; exact h10 (by decide)
  have e4 : (nm == [97, 110, 121, 79, 102]) = false := by rw [beq_eq_false_iff_ne]; rintro rfl; exact h10 (by decide)
  have e5 : (nm == [111, 110, 101, 79, 102]) = false := by rw [beq_eq_false_iff_ne]; rintro rfl; exact h10 (by decide)
  clear h8 h9 h10
  go_enter Tryz.func12, Tryz.ntmps12
  go_upto_region 1 with (fail)
  generalize w.alloc (.cells #[.int .i64 k, .bool b, .bool n.neg, .string ⟨n.digits.toArray⟩, .int .i64 n.exp, .string ⟨s.toArray⟩, .slice A l.length e, .slice B m.length d] 28) = w1 at *
  obtain ⟨a0, a1, a2, a3, a4, a5, a6, a7⟩ := HK.out.eight
  have hkl := HK.out.lt
  go_wp2_with fail
  refine HCH.out.mono ?_
  rintro e6 w2 ⟨rfl, hb2⟩
  have HB2 := Lib.hid (HB.out.trans (hb2.mono HB.out.size))
  clear hb2 a0 a1 a2 a3 a4 a5 a6 a7 hkl
  go_wp2_with fail
  refine (HSG.out _).mono ?_
  rintro e7 w3 ⟨rfl, rfl⟩
  go_wp2_with fail
  go_ret
  rw [HF.out]
  exact ⟨none, 0, rfl, fun i p h => by simp at h, Nat.le_refl _, by unfold maxLen; omega, HB2.out⟩

theorem single10_any : SingleT Tab := fun nm w _ _ => (single_any nm w).mono fun _ _ ⟨h1, h2⟩ => ⟨h1, h2 ▸ Below.refl _ _⟩
theorem stays10 : Stays Tab := fun _ _ h hb => h.keep hb

end Go.Proofs.YtfolfibembplbaaGreatDoor

