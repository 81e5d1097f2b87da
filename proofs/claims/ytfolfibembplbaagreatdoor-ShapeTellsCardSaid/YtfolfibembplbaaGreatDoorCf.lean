/- The laws of layer 10 (shape), given what the program's Check, Single and Kids are to do. (By gen_cf.py.) -/
import Derived.Test.YtfolfibembplbaaGreatDoorCe
import Derived.Test.YtfolfibembplbaaGreatDoorMt
import Derived.Test.YtfolfibembplbaaGreatDoorWg
import Derived.Test.YtfolfibembplbaaGreatDoorRg
namespace Go.Proofs.YtfolfibembplbaaGreatDoor
open Go.RowKit Js

/-- What holds of the world, and stays so. -/
def Stays (G : World → Prop) : Prop := ∀ w w' : World, G w → Below w.heap.size w w' → G w'
/-- What the program's Check, Single, Kids are to do. -/
def CheckT (G : World → Prop) : Prop := ∀ (nm : List UInt8) (v : Vl) (x : Value) (w : World), G w → nm.length ≤ 1000 → Fine v → v.In w.cell? x → Calls Tryz.prog 8 #[.string ⟨nm.toArray⟩, x] w fun e w' => e = .returned (errV (Sh.shape nm v)) ∧ Below w.heap.size w w'
def SingleT (G : World → Prop) : Prop := ∀ (nm : List UInt8) (w : World), G w → nm.length ≤ 1000 → Calls Tryz.prog 9 #[.string ⟨nm.toArray⟩] w fun e w' => e = .returned (.bool (Sh.single nm)) ∧ Below w.heap.size w w'
/-- What each Kids tells. -/
def KidsE (r : List Js.Mem) (w : World) (e : Ending) (w' : World) : Prop :=
  ∃ (A : Option Addr) (cp : Nat), e = .returned (.slice A r.length cp) ∧ SlM w'.cell? A r ∧ r.length ≤ cp ∧ cp ≤ maxLen ∧ Below w.heap.size w w'
def KidsT (G : World → Prop) : Prop := ∀ (nm : List UInt8) (v : Vl) (x : Value) (w : World), G w → nm.length ≤ 1000 → Fine v → v.In w.cell? x → Sh.shape nm v = 0 → Calls Tryz.prog 12 #[.string ⟨nm.toArray⟩, x] w (KidsE (Sh.kids nm v) w)
theorem refKidsE_any (nm : List UInt8) (v : Vl) (x : Value) (w : World) (hx : v.In w.cell? x) (hsz : v.size ≤ 1000000) : Calls Tryz.prog 13 #[.string ⟨nm.toArray⟩, x] w (KidsE (Sh.kids nm v) w) := by
  refine (refKids_any (fun q => q < w.heap.size) nm v x w (fun _ h => h) (In.keep (fun _ _ hp => on_some.2 ⟨World.block_lt_of_cell? _ _ hp, hp⟩) _ _ hx) hsz).mono ?_
  rintro e w' ⟨A, cp, h1, h2, h3, h4, h5⟩
  exact ⟨A, cp, h1, h2.keep (on_all _ _), h3, h4, h5⟩
/-- A world behind another one. -/
def Since10 (w W : World) : Prop := Below w.heap.size w W

set_option linter.unusedVariables false in
set_option linter.unusedSimpArgs false in
set_option maxRecDepth 100000 in
set_option maxHeartbeats 2000000 in
theorem same10_any (r : List Js.Mem) (A : Option Addr) (c : Nat) (B : Option Addr) (d : Nat) (w : World) (ha : SlM w.cell? A r) (hb : SlM w.cell? B r) (hc : r.length ≤ c) (hcm : c ≤ maxLen) (hd : r.length ≤ d) (hdm : d ≤ maxLen) :
    Calls Tryz.prog 11 #[.slice A r.length c, .slice B r.length d] w fun e w' => e = .returned (.int .i64 1) ∧ Below w.heap.size w w' := by
  have HA := Lib.hid ha
  have HB := Lib.hid hb
  unfold maxLen at hcm hdm
  clear ha hb
  go_enter Tryz.func11, Tryz.ntmps11
  go_wp2_with fail
  go_loopw [5] (fun i wr => ∃ j : Nat, j ≤ r.length ∧ i = .int .i64 j ∧ Below w.heap.size w wr) (fun i _ => r.length - (intOf i).toNat)
  case atStart => exact ⟨0, by omega, rfl, Below.refl _ _⟩
  case round =>
    obtain ⟨j, hj, rfl, hbw⟩ := hrel
    have HW := Lib.hid hbw
    clear hbw
    by_cases hlt : j < r.length
    · obtain ⟨g, o, y, rfl, hy, hk, hc1⟩ := HA.out j _ (List.getElem?_eq_getElem hlt)
      obtain ⟨g2, o2, z, rfl, hz, hk2, hc2⟩ := HB.out j _ (List.getElem?_eq_getElem hlt)
      obtain ⟨y_1, y_2, y_3, y_4, y_5, y_6, y_7, y_8, y_9, y_a, y_b, y_c, rfl⟩ := In.cells hy
      obtain ⟨z_1, z_2, z_3, z_4, z_5, z_6, z_7, z_8, z_9, z_a, z_b, z_c, rfl⟩ := In.cells hz
      have HY := Lib.hid hy
      have HZ := Lib.hid hz
      have HC1 := Lib.hid hc1
      have HC2 := Lib.hid hc2
      have HK1 := Lib.hid hk
      have HK2 := Lib.hid hk2
      have hjj : (j : Int) < (r.length : Int) := by omega
      have hgl := World.block_lt_of_cell? _ _ ((le_below HW.out) _ _ hk)
      have hgl2 := World.block_lt_of_cell? _ _ ((le_below HW.out) _ _ hk2)
      generalize r[j] = p at *
      clear hy hz hc1 hc2 hk hk2
      go_wp2_with fail
      go_cut [6] from 17 to 17 (fun v6 wc => v6 = .bool true ∧ Below w.heap.size w wc)
      case first =>
        refine wp_region_held_drew (S := Since10 w) (by kernel_rfl) (show Since10 w wr.drew from HW.out.drew) (fun ht => ?_)
        refine wpAnyH_take (i := 0) (oi := ⟨some _, _, _, _, _, _⟩) (v := (.slice (some ⟨g, o, none⟩) r.length c)) rfl (by kernel_rfl) (by kernel_rfl) (by kernel_rfl) (fun _ _ _ h => h) (Or.inl ⟨by rfl, ?_⟩) ht ?_
        · intro W9 hSw
          go_simp
        try simp only [Act.put, List.setIfInBounds_toArray, List.set_cons_zero, List.set_cons_succ]
        refine wpAnyH_take (i := 1) (oi := ⟨some _, _, _, _, _, _⟩) (v := (.int .i64 j)) rfl (by kernel_rfl) (by kernel_rfl) (by kernel_rfl) (fun _ _ _ h => h) (Or.inl ⟨by rfl, ?_⟩) ht ?_
        · intro W9 hSw
          go_simp
        try simp only [Act.put, List.setIfInBounds_toArray, List.set_cons_zero, List.set_cons_succ]
        refine wpAnyH_take (i := 2) (oi := ⟨some _, _, _, _, _, _⟩) (v := (.pointer (some ⟨g, o + j * 9, none⟩))) rfl (by kernel_rfl) (by kernel_rfl) (by kernel_rfl) (fun _ _ _ h => h) (Or.inl ⟨by rfl, ?_⟩) ht ?_
        · intro W9 hSw
          go_simp
        try simp only [Act.put, List.setIfInBounds_toArray, List.set_cons_zero, List.set_cons_succ]
        refine wpAnyH_take (i := 3) (oi := ⟨some _, _, _, _, _, _⟩) (v := (.pointer (some ⟨g, o + j * 9 + 1, none⟩))) rfl (by kernel_rfl) (by kernel_rfl) (by kernel_rfl) (fun _ _ _ h => h) (Or.inl ⟨by rfl, ?_⟩) ht ?_
        · intro W9 hSw
          go_simp
        try simp only [Act.put, List.setIfInBounds_toArray, List.set_cons_zero, List.set_cons_succ]
        refine wpAnyH_take (i := 4) (oi := ⟨some _, _, _, _, _, _⟩) (v := (.agg #[.int .i64 y_1, .bool y_2, .bool y_3, .string ⟨y_4.toArray⟩, .int .i64 y_5, .string ⟨y_6.toArray⟩, .slice y_7 y_8 y_9, .slice y_a y_b y_c])) rfl (by kernel_rfl) (by kernel_rfl) (by kernel_rfl) (fun _ _ _ h => h) (Or.inl ⟨by rfl, ?_⟩) ht ?_
        · intro W9 hSw
          obtain ⟨e0, e1, e2, e3, e4, e5, e6, e7⟩ := (HC1.out.keep (le_below hSw)).eight
          go_simp
        try simp only [Act.put, List.setIfInBounds_toArray, List.set_cons_zero, List.set_cons_succ]
        refine wpAnyH_take (i := 5) (oi := ⟨some _, _, _, _, _, _⟩) (v := (.slice (some ⟨g2, o2, none⟩) r.length d)) rfl (by kernel_rfl) (by kernel_rfl) (by kernel_rfl) (fun _ _ _ h => h) (Or.inl ⟨by rfl, ?_⟩) ht ?_
        · intro W9 hSw
          go_simp
        try simp only [Act.put, List.setIfInBounds_toArray, List.set_cons_zero, List.set_cons_succ]
        refine wpAnyH_take (i := 6) (oi := ⟨some _, _, _, _, _, _⟩) (v := (.int .i64 j)) rfl (by kernel_rfl) (by kernel_rfl) (by kernel_rfl) (fun _ _ _ h => h) (Or.inl ⟨by rfl, ?_⟩) ht ?_
        · intro W9 hSw
          go_simp
        try simp only [Act.put, List.setIfInBounds_toArray, List.set_cons_zero, List.set_cons_succ]
        refine wpAnyH_take (i := 7) (oi := ⟨some _, _, _, _, _, _⟩) (v := (.pointer (some ⟨g2, o2 + j * 9, none⟩))) rfl (by kernel_rfl) (by kernel_rfl) (by kernel_rfl) (fun _ _ _ h => h) (Or.inl ⟨by rfl, ?_⟩) ht ?_
        · intro W9 hSw
          go_simp
        try simp only [Act.put, List.setIfInBounds_toArray, List.set_cons_zero, List.set_cons_succ]
        refine wpAnyH_take (i := 8) (oi := ⟨some _, _, _, _, _, _⟩) (v := (.pointer (some ⟨g2, o2 + j * 9 + 1, none⟩))) rfl (by kernel_rfl) (by kernel_rfl) (by kernel_rfl) (fun _ _ _ h => h) (Or.inl ⟨by rfl, ?_⟩) ht ?_
        · intro W9 hSw
          go_simp
        try simp only [Act.put, List.setIfInBounds_toArray, List.set_cons_zero, List.set_cons_succ]
        refine wpAnyH_take (i := 9) (oi := ⟨some _, _, _, _, _, _⟩) (v := (.agg #[.int .i64 z_1, .bool z_2, .bool z_3, .string ⟨z_4.toArray⟩, .int .i64 z_5, .string ⟨z_6.toArray⟩, .slice z_7 z_8 z_9, .slice z_a z_b z_c])) rfl (by kernel_rfl) (by kernel_rfl) (by kernel_rfl) (fun _ _ _ h => h) (Or.inl ⟨by rfl, ?_⟩) ht ?_
        · intro W9 hSw
          obtain ⟨e0, e1, e2, e3, e4, e5, e6, e7⟩ := (HC2.out.keep (le_below hSw)).eight
          go_simp
        try simp only [Act.put, List.setIfInBounds_toArray, List.set_cons_zero, List.set_cons_succ]
        refine wpAnyH_ready (rs := [10]) (by kernel_rfl) (by simp) ?_
        refine AllReadyH.cons (o := ⟨some _, _, _, _, _, _⟩) rfl (fun K hK => ?_) (AllReadyH.nil)
        go_simp
        have hsm := refSame_any p.2 p.2 _ _ wr.drew (In.keep (le_below ht) _ _ HY.out) (In.keep (le_below ht) _ _ HZ.out)
        rw [same_refl] at hsm
        refine hsm.mono ?_
        rintro e2 w2 ⟨rfl, hb2⟩
        have hs : Since10 w w2 := Below.trans ht (hb2.mono (Below.size ht))
        clear hb2 ht hsm
        go_wp2_with fail
        refine hK.out _ _ hs (fun ht => ?_)
        clear hK K hs
        try simp only [Act.put, List.setIfInBounds_toArray, List.set_cons_zero, List.set_cons_succ]
        refine wpAnyH_take (i := 11) (oi := ⟨some _, _, _, _, _, _⟩) (v := (.bool true)) rfl (by kernel_rfl) (by kernel_rfl) (by kernel_rfl) (fun _ _ _ h => h) (Or.inl ⟨by rfl, ?_⟩) ht ?_
        · intro W9 hSw
          go_simp
        try simp only [Act.put, List.setIfInBounds_toArray, List.set_cons_zero, List.set_cons_succ]
        refine wpAnyH_done (by kernel_rfl) ?_ _
        have HX := Lib.hid (show Below w.heap.size w w2 from ht)
        clear ht
        go_wp2_with fail
        go_meet
        case rel => exact ⟨rfl, HX.out⟩
      case rest =>
      obtain ⟨rfl, hbc⟩ := hcut
      obtain ⟨w3, hw3⟩ : ∃ W, W = wc := ⟨_, rfl⟩
      subst hw3
      have HB3 := Lib.hid hbc
      clear hbc
      have k1 := (le_below HB3.out) _ _ HK1.out
      have k2 := (le_below HB3.out) _ _ HK2.out
      have hl1 := World.block_lt_of_cell? _ _ k1
      have hl2 := World.block_lt_of_cell? _ _ k2
      go_upto_region 7 with (fail)
      go_quiet (fail)
      go_wp2_with fail
      go_roundw
      case rel => exact ⟨j + 1, by omega, by go_num, below_drewN HB3.out _⟩
      case measure => simp [intOf]; omega
    · obtain rfl : j = r.length := by omega
      go_wp2_with fail
      go_ret
      exact ⟨rfl, HW.out⟩

/-- The document's example. -/
def Sh.exV : Vl := Ps.mkS [105, 110, 116, 101, 103, 101, 114]
set_option linter.unusedVariables false in
set_option linter.unusedSimpArgs false in
set_option maxRecDepth 100000 in
set_option maxHeartbeats 2000000 in
theorem up10_any {G : World → Prop} (hG : Stays G) (hC : CheckT G) (hS : SingleT G) (w : World) (hg : G w) : Calls Tryz.prog 4 #[] w fun e w' => e = .returned (.bool true) ∧ Below w.heap.size w w' := by
  have HX := Lib.hid (show ∀ c : Cl, Sh.exV.In c (.agg #[.int .i64 3, .bool false, .bool false, .string ⟨#[]⟩, .int .i64 0, .string ⟨#[105, 110, 116, 101, 103, 101, 114]⟩, .slice none 0 0, .slice none 0 0]) from fun c => leaf_in c 3 false Nm.Num.zero [105, 110, 116, 101, 103, 101, 114])
  have hf : Fine Sh.exV := by unfold Sh.exV; exact ⟨by decide, by decide, by decide, by decide, by simp [Ps.mkS, Vl.slim, slimL, slimM, Nm.Num.zero]⟩
  have HBA := Lib.hid ((Below.refl w.heap.size w).alloc (Nat.le_refl _) (.cells #[.int .i64 3, .bool false, .bool false, .string ⟨#[]⟩, .int .i64 0, .string ⟨#[105, 110, 116, 101, 103, 101, 114]⟩, .slice none 0 0, .slice none 0 0] 28))
  have HKA := Lib.hid (Blk.new w 28 #[.int .i64 3, .bool false, .bool false, .string ⟨#[]⟩, .int .i64 0, .string ⟨#[105, 110, 116, 101, 103, 101, 114]⟩, .slice none 0 0, .slice none 0 0])
  have HC1 := Lib.hid (fun (W : World) (h : Below w.heap.size w W) => hC [116, 121, 112, 101] Sh.exV _ W (hG _ _ hg h) (by decide) hf (HX.out W.cell?))
  have HC2 := Lib.hid (fun (W : World) (h : Below w.heap.size w W) => hC [116, 121, 112] Sh.exV _ W (hG _ _ hg h) (by decide) hf (HX.out W.cell?))
  have HC3 := Lib.hid (fun (W : World) (h : Below w.heap.size w W) => hC [101, 110, 117, 109] Sh.exV _ W (hG _ _ hg h) (by decide) hf (HX.out W.cell?))
  have HS := Lib.hid (fun (W : World) (h : Below w.heap.size w W) => hS [110, 111, 116] W (hG _ _ hg h) (by decide))
  rw [show errV ((Sh.shape [116, 121, 112, 101] Sh.exV : Nat) : Int) = .nilIface by kernel_rfl] at HC1
  rw [show errV ((Sh.shape [116, 121, 112] Sh.exV : Nat) : Int) = errV 10 by kernel_rfl] at HC2
  rw [show errV ((Sh.shape [101, 110, 117, 109] Sh.exV : Nat) : Int) = errV 11 by kernel_rfl] at HC3
  rw [show Sh.single [110, 111, 116] = true by decide] at HS
  have HD := Lib.hid (fun (k : Int) (W : World) (h0 : 0 ≤ k) (h1 : k ≤ 14) => code_any k W h0 h1)
  clear hG hC hS hg hf
  go_enter Tryz.func4, Tryz.ntmps4
  go_upto_region 2 with (fail)
  generalize w.alloc (.cells #[.int .i64 3, .bool false, .bool false, .string ⟨#[]⟩, .int .i64 0, .string ⟨#[105, 110, 116, 101, 103, 101, 114]⟩, .slice none 0 0, .slice none 0 0] 28) = w0 at *
  obtain ⟨a0, a1, a2, a3, a4, a5, a6, a7⟩ := HKA.out.eight
  go_wp2_with fail
  refine (HC1.out _ HBA.out).mono ?_
  rintro e1 w1 ⟨rfl, hb1⟩
  have HB1 := Lib.hid (HBA.out.trans (hb1.mono HBA.out.size))
  have HK1 := Lib.hid (HKA.out.on hb1)
  clear hb1 a0 a1 a2 a3 a4 a5 a6 a7
  obtain ⟨a0, a1, a2, a3, a4, a5, a6, a7⟩ := HK1.out.eight
  go_wp2_with fail
  refine (HC2.out _ HB1.out).mono ?_
  rintro e2 w2 ⟨rfl, hb2⟩
  have HB2 := Lib.hid (HB1.out.trans (hb2.mono HB1.out.size))
  have HK2 := Lib.hid (HK1.out.on hb2)
  clear hb2 a0 a1 a2 a3 a4 a5 a6 a7
  go_wp2_with fail
  refine (HD.out 10 _ (by omega) (by omega)).mono ?_
  rintro e3 w3 ⟨rfl, rfl⟩
  obtain ⟨a0, a1, a2, a3, a4, a5, a6, a7⟩ := HK2.out.eight
  go_wp2_with fail
  refine (HC3.out _ HB2.out).mono ?_
  rintro e4 w4 ⟨rfl, hb4⟩
  have HB4 := Lib.hid (HB2.out.trans (hb4.mono HB2.out.size))
  clear hb4 a0 a1 a2 a3 a4 a5 a6 a7
  go_wp2_with fail
  refine (HD.out 11 _ (by omega) (by omega)).mono ?_
  rintro e5 w5 ⟨rfl, rfl⟩
  go_wp2_with fail
  refine (HS.out _ HB4.out).mono ?_
  rintro e6 w6 ⟨rfl, hb6⟩
  have HB6 := Lib.hid (HB4.out.trans (hb6.mono HB4.out.size))
  clear hb6
  go_wp2_with fail
  go_ret
  exact ⟨rfl, HB6.out⟩

/-- A value in a block, while a law goes on. -/
structure Part10 (gV : Nat) (V : Array Value) (wr W : World) : Prop where
  v : Blk W gV 28 V
  since : Below wr.heap.size wr W
theorem Part10.on {gV : Nat} {V : Array Value} {wr w' w'' : World} (h : Part10 gV V wr w') (hb : Below w'.heap.size w' w'') : Part10 gV V wr w'' := ⟨h.v.on hb, h.since.trans (hb.mono h.since.size)⟩

set_option linter.unusedVariables false in
set_option linter.unusedSimpArgs false in
set_option maxRecDepth 100000 in
set_option maxHeartbeats 2000000 in
theorem shapeTells_any {G : World → Prop} (hG : Stays G) (hC : CheckT G) (hS : SingleT G) (hK : KidsT G) (nm : List UInt8) (s : ByteArray) (w : World) (hg : G w) (hn : nm.length ≤ 1000000000000000000) (hs : s.size ≤ 1000000000000000000) :
    Calls Tryz.prog 3 #[.string ⟨nm.toArray⟩, .string s] w fun e w' => e = .returned (.bool true) ∧ Below w.heap.size w w' := by
  have HU := Lib.hid (up10_any hG hC hS w hg)
  have HG := Lib.hid (fun (W : World) (h : Below w.heap.size w W) => hG _ _ hg h)
  have HC := Lib.hid hC
  have HSI := Lib.hid hS
  have HKI := Lib.hid hK
  clear hG hC hS hK hg
  go_enter Tryz.func3, Tryz.ntmps3
  go_wp2_with fail
  refine HU.out.mono ?_
  rintro e w0 ⟨rfl, hb0⟩
  have HB0 := Lib.hid hb0
  have HV := Lib.hid (value_told s hs w0)
  clear hb0 HU
  go_wp2_with fail
  refine HV.out.mono ?_
  rintro e1 w1 ⟨v, x, c, rfl, hx, hb1, hc⟩
  obtain ⟨k_1, k_2, k_3, k_4, k_5, k_6, k_7, k_8, k_9, k_a, k_b, k_c, rfl⟩ := In.cells hx
  have hba := hb1.alloc hb1.size (.cells #[.int .i64 k_1, .bool k_2, .bool k_3, .string ⟨k_4.toArray⟩, .int .i64 k_5, .string ⟨k_6.toArray⟩, .slice k_7 k_8 k_9, .slice k_a k_b k_c] 28)
  have HB := Lib.hid (HB0.out.trans (hba.mono HB0.out.size))
  have HX := Lib.hid (In.keep (le_alloc w1 (.cells #[.int .i64 k_1, .bool k_2, .bool k_3, .string ⟨k_4.toArray⟩, .int .i64 k_5, .string ⟨k_6.toArray⟩, .slice k_7 k_8 k_9, .slice k_a k_b k_c] 28)) _ _ hx)
  have HK := Lib.hid (Blk.new w1 28 #[.int .i64 k_1, .bool k_2, .bool k_3, .string ⟨k_4.toArray⟩, .int .i64 k_5, .string ⟨k_6.toArray⟩, .slice k_7 k_8 k_9, .slice k_a k_b k_c])
  clear hx hb1 hba HV HB0
  go_upto_region 3 with (fail)
  generalize w1.alloc (.cells #[.int .i64 k_1, .bool k_2, .bool k_3, .string ⟨k_4.toArray⟩, .int .i64 k_5, .string ⟨k_6.toArray⟩, .slice k_7 k_8 k_9, .slice k_a k_b k_c] 28) = wa at *
  generalize w1.heap.size = g1 at *
  rcases hc with rfl | ⟨rfl, hf⟩
  · go_wp2_with fail
    go_ret
    exact ⟨rfl, HB.out⟩
  have hnl : (⟨nm.toArray⟩ : ByteArray).size = nm.length := Lib.size_mk nm
  by_cases h100 : 100 < nm.length
  · have d1 : decide ((100 : Int) < (nm.length : Int)) = true := decide_eq_true (by omega)
    have d2 : decide (100 < nm.length) = true := decide_eq_true h100
    go_wp2_with fail
    go_ret
    exact ⟨rfl, HB.out⟩
  have d1 : decide ((100 : Int) < (nm.length : Int)) = false := decide_eq_false (by omega)
  have d2 : decide (100 < nm.length) = false := decide_eq_false h100
  have HF := Lib.hid hf
  have HN := Lib.hid (show nm.length ≤ 1000 by omega)
  clear hf
  have HSZ := Lib.hid (show v.size ≤ 1000000 by have := HF.out.2.1; omega)
  have HSH := Lib.hid (fun (W : World) (h : v.In W.cell? (.agg #[.int .i64 k_1, .bool k_2, .bool k_3, .string ⟨k_4.toArray⟩, .int .i64 k_5, .string ⟨k_6.toArray⟩, .slice k_7 k_8 k_9, .slice k_a k_b k_c])) => refShape_any nm v _ W h HSZ.out)
  have HCH := Lib.hid (fun (W : World) (hb : Below w.heap.size w W) (h : v.In W.cell? (.agg #[.int .i64 k_1, .bool k_2, .bool k_3, .string ⟨k_4.toArray⟩, .int .i64 k_5, .string ⟨k_6.toArray⟩, .slice k_7 k_8 k_9, .slice k_a k_b k_c])) => HC.out nm v _ W (HG.out W hb) HN.out HF.out h)
  have HL14 := Lib.hid (Sh.shape_le nm v)
  have HKD := Lib.hid (fun (h : Sh.shape nm v = 0) (W : World) (hb : Below w.heap.size w W) (hx : v.In W.cell? (.agg #[.int .i64 k_1, .bool k_2, .bool k_3, .string ⟨k_4.toArray⟩, .int .i64 k_5, .string ⟨k_6.toArray⟩, .slice k_7 k_8 k_9, .slice k_a k_b k_c])) => HKI.out nm v _ W (HG.out W hb) HN.out HF.out hx h)
  obtain ⟨q, hq⟩ : ∃ q, Sh.shape nm v = q := ⟨_, rfl⟩
  rw [hq] at HSH HCH HL14 HKD
  clear hq
  have hq14 := HL14.out
  obtain ⟨a0, a1, a2, a3, a4, a5, a6, a7⟩ := HK.out.eight
  go_wp2_with fail
  refine (HSH.out _ HX.out).mono ?_
  rintro e2 w2 ⟨rfl, hb2⟩
  have HB' := Lib.hid (HB.out.trans (hb2.mono HB.out.size))
  have HX' := Lib.hid (In.keep (le_below hb2) _ _ HX.out)
  have HK' := Lib.hid (HK.out.on hb2)
  clear HB HX HK hb2 a0 a1 a2 a3 a4 a5 a6 a7
  have HB := Lib.hid HB'.out
  have HX := Lib.hid HX'.out
  have HK := Lib.hid HK'.out
  clear HB' HX' HK'
  clear HSH
  go_upto_region 6 with (fail)
  obtain ⟨wo, hwo⟩ : ∃ W, W = w2 := ⟨_, rfl⟩
  subst hwo
  go_cut [38] from 17 to 17 (fun v38 wc => v38 = .bool false ∧ Below wo.heap.size wo wc)
  case first =>
    obtain ⟨a0, a1, a2, a3, a4, a5, a6, a7⟩ := HK.out.eight
    go_wp2_with fail
    refine (HCH.out _ HB.out HX.out).mono ?_
    rintro e3 w3 ⟨rfl, hb3⟩
    have HB3 := Lib.hid hb3
    have HW3 := Lib.hid (HB.out.trans (hb3.mono HB.out.size))
    clear hb3 HCH a0 a1 a2 a3 a4 a5 a6 a7
    go_wp2_with fail
    refine (code_any q _ (by omega) (by omega)).mono ?_
    rintro e4 w4 ⟨rfl, rfl⟩
    have hqq : ((q : Int) != (q : Int)) = false := by simp
    have hqq2 : ((q : Int) == (q : Int)) = true := by simp
    go_wp2_with fail
    refine (HSI.out nm _ (HG.out _ HW3.out) HN.out).mono ?_
    rintro e5 w5 ⟨rfl, hb5⟩
    have HB5 := Lib.hid (HB3.out.trans (hb5.mono HB3.out.size))
    clear hb5
    go_wp2_with fail
    refine (refSingle_any nm _).mono ?_
    rintro e6 w6 ⟨rfl, rfl⟩
    obtain ⟨sb, hsb⟩ : ∃ sb, Sh.single nm = sb := ⟨_, rfl⟩
    rw [hsb]
    clear hsb
    cases sb
    all_goals
      go_wp2_with fail
      go_meet
      case rel => exact ⟨rfl, HB5.out⟩
  case rest =>
  obtain ⟨rfl, hbc⟩ := hcut
  obtain ⟨wk, hwk⟩ : ∃ W, W = wc := ⟨_, rfl⟩
  subst hwk
  have HB' := Lib.hid (HB.out.trans (hbc.mono HB.out.size))
  have HX' := Lib.hid (In.keep (le_below hbc) _ _ HX.out)
  have HK' := Lib.hid (HK.out.on hbc)
  clear HB HX HK hbc 
  have HB := Lib.hid HB'.out
  have HX := Lib.hid HX'.out
  have HK := Lib.hid HK'.out
  clear HB' HX' HK'
  clear HCH
  by_cases hq0 : q = 0
  · have hz : ((q : Int) != 0) = false := by rw [hq0]; rfl
    have HKR := Lib.hid (fun (W : World) (h : v.In W.cell? (.agg #[.int .i64 k_1, .bool k_2, .bool k_3, .string ⟨k_4.toArray⟩, .int .i64 k_5, .string ⟨k_6.toArray⟩, .slice k_7 k_8 k_9, .slice k_a k_b k_c])) => refKidsE_any nm v _ W h HSZ.out)
    have HKP := Lib.hid (fun (W : World) (hb : Below w.heap.size w W) (h : v.In W.cell? (.agg #[.int .i64 k_1, .bool k_2, .bool k_3, .string ⟨k_4.toArray⟩, .int .i64 k_5, .string ⟨k_6.toArray⟩, .slice k_7 k_8 k_9, .slice k_a k_b k_c])) => HKD.out hq0 W hb h)
    obtain ⟨r, hr⟩ : ∃ r, Sh.kids nm v = r := ⟨_, rfl⟩
    rw [hr] at HKR HKP
    clear hr HKD
    go_upto_region 8 with (fail)
    refine wp_region_held_drew (S := Part10 g1 #[.int .i64 k_1, .bool k_2, .bool k_3, .string ⟨k_4.toArray⟩, .int .i64 k_5, .string ⟨k_6.toArray⟩, .slice k_7 k_8 k_9, .slice k_a k_b k_c] wk) (by kernel_rfl) ⟨HK.out.drew, (Below.refl _ _).drew⟩ (fun ht => ?_)
    refine wpAnyH_take (i := 0) (oi := ⟨some _, _, _, _, _, _⟩) (v := (.bool true)) rfl (by kernel_rfl) (by kernel_rfl) (by kernel_rfl) (fun _ _ _ h => h) (Or.inl ⟨by rfl, ?_⟩) ht ?_
    · intro W9 hSw
      go_simp
    try simp only [Act.put, List.setIfInBounds_toArray, List.set_cons_zero, List.set_cons_succ]
    refine wpAnyH_take (i := 1) (oi := ⟨some _, _, _, _, _, _⟩) (v := (.bool true)) rfl (by kernel_rfl) (by kernel_rfl) (by kernel_rfl) (fun _ _ _ h => h) (Or.inl ⟨by rfl, ?_⟩) ht ?_
    · intro W9 hSw
      go_simp
    try simp only [Act.put, List.setIfInBounds_toArray, List.set_cons_zero, List.set_cons_succ]
    refine wpAnyH_take (i := 2) (oi := ⟨some _, _, _, _, _, _⟩) (v := (.int .i64 q)) rfl (by kernel_rfl) (by kernel_rfl) (by kernel_rfl) (fun _ _ _ h => h) (Or.inl ⟨by rfl, ?_⟩) ht ?_
    · intro W9 hSw
      go_simp
    try simp only [Act.put, List.setIfInBounds_toArray, List.set_cons_zero, List.set_cons_succ]
    refine wpAnyH_take (i := 3) (oi := ⟨some _, _, _, _, _, _⟩) (v := (.bool false)) rfl (by kernel_rfl) (by kernel_rfl) (by kernel_rfl) (fun _ _ _ h => h) (Or.inl ⟨by rfl, ?_⟩) ht ?_
    · intro W9 hSw
      go_simp
    try simp only [Act.put, List.setIfInBounds_toArray, List.set_cons_zero, List.set_cons_succ]
    refine wpAnyH_take (i := 4) (oi := ⟨some _, _, _, _, _, _⟩) (v := (.bool false)) rfl (by kernel_rfl) (by kernel_rfl) (by kernel_rfl) (fun _ _ _ h => h) (Or.inl ⟨by rfl, ?_⟩) ht ?_
    · intro W9 hSw
      go_simp
    try simp only [Act.put, List.setIfInBounds_toArray, List.set_cons_zero, List.set_cons_succ]
    refine wpAnyH_take (i := 5) (oi := ⟨some _, _, _, _, _, _⟩) (v := (.string ⟨nm.toArray⟩)) rfl (by kernel_rfl) (by kernel_rfl) (by kernel_rfl) (fun _ _ _ h => h) (Or.inl ⟨by rfl, ?_⟩) ht ?_
    · intro W9 hSw
      go_simp
    try simp only [Act.put, List.setIfInBounds_toArray, List.set_cons_zero, List.set_cons_succ]
    refine wpAnyH_take (i := 6) (oi := ⟨some _, _, _, _, _, _⟩) (v := (.agg #[.int .i64 k_1, .bool k_2, .bool k_3, .string ⟨k_4.toArray⟩, .int .i64 k_5, .string ⟨k_6.toArray⟩, .slice k_7 k_8 k_9, .slice k_a k_b k_c])) rfl (by kernel_rfl) (by kernel_rfl) (by kernel_rfl) (fun _ _ _ h => h) (Or.inl ⟨by rfl, ?_⟩) ht ?_
    · intro W9 hSw
      obtain ⟨c0, c1, c2, c3, c4, c5, c6, c7⟩ := hSw.v.eight
      go_simp
    try simp only [Act.put, List.setIfInBounds_toArray, List.set_cons_zero, List.set_cons_succ]
    refine wpAnyH_take (i := 8) (oi := ⟨some _, _, _, _, _, _⟩) (v := (.string ⟨nm.toArray⟩)) rfl (by kernel_rfl) (by kernel_rfl) (by kernel_rfl) (fun _ _ _ h => h) (Or.inl ⟨by rfl, ?_⟩) ht ?_
    · intro W9 hSw
      go_simp
    try simp only [Act.put, List.setIfInBounds_toArray, List.set_cons_zero, List.set_cons_succ]
    refine wpAnyH_take (i := 9) (oi := ⟨some _, _, _, _, _, _⟩) (v := (.agg #[.int .i64 k_1, .bool k_2, .bool k_3, .string ⟨k_4.toArray⟩, .int .i64 k_5, .string ⟨k_6.toArray⟩, .slice k_7 k_8 k_9, .slice k_a k_b k_c])) rfl (by kernel_rfl) (by kernel_rfl) (by kernel_rfl) (fun _ _ _ h => h) (Or.inl ⟨by rfl, ?_⟩) ht ?_
    · intro W9 hSw
      obtain ⟨c0, c1, c2, c3, c4, c5, c6, c7⟩ := hSw.v.eight
      go_simp
    try simp only [Act.put, List.setIfInBounds_toArray, List.set_cons_zero, List.set_cons_succ]
    refine wpAnyH_ready (rs := [7]) (by kernel_rfl) (by simp) ?_
    refine AllReadyH.cons (o := ⟨some _, _, _, _, _, _⟩) rfl (fun K hK => ?_) (AllReadyH.nil)
    go_simp
    refine (HKP.out _ (HB.out.trans (ht.since.mono HB.out.size)) (In.keep (le_below ht.since) _ _ HX.out)).mono ?_
    rintro e2 w2 ⟨A1, n1, rfl, hs1, hl1, hm1, hb2⟩
    have hs := ht.on hb2
    have H1 := Lib.hid hs1
    clear hb2 ht hs1
    go_wp2_with fail
    refine hK.out _ _ hs (fun ht => ?_)
    clear hK K hs
    try simp only [Act.put, List.setIfInBounds_toArray, List.set_cons_zero, List.set_cons_succ]
    refine wpAnyH_ready (rs := [10]) (by kernel_rfl) (by simp) ?_
    refine AllReadyH.cons (o := ⟨some _, _, _, _, _, _⟩) rfl (fun K hK => ?_) (AllReadyH.nil)
    go_simp
    refine (HKR.out _ (In.keep (le_below ht.since) _ _ HX.out)).mono ?_
    rintro e3 w3 ⟨A2, n2, rfl, hs2, hl2, hm2, hb3⟩
    have hs := ht.on hb3
    have H1w := Lib.hid (H1.out.keep (le_below hb3))
    have H2 := Lib.hid hs2
    clear hb3 ht hs2 H1
    go_wp2_with fail
    refine hK.out _ _ hs (fun ht => ?_)
    clear hK K hs
    try simp only [Act.put, List.setIfInBounds_toArray, List.set_cons_zero, List.set_cons_succ]
    refine wpAnyH_ready (rs := [11]) (by kernel_rfl) (by simp) ?_
    refine AllReadyH.cons (o := ⟨some _, _, _, _, _, _⟩) rfl (fun K hK => ?_) (AllReadyH.nil)
    go_simp
    refine (same10_any r A1 n1 A2 n2 w3 H1w.out H2.out hl1 hm1 hl2 hm2).mono ?_
    rintro e4 w4 ⟨rfl, hb4⟩
    have hs := ht.on hb4
    clear hb4 ht
    go_wp2_with fail
    refine hK.out _ _ hs (fun ht => ?_)
    clear hK K hs
    try simp only [Act.put, List.setIfInBounds_toArray, List.set_cons_zero, List.set_cons_succ]
    refine wpAnyH_take (i := 12) (oi := ⟨some _, _, _, _, _, _⟩) (v := (.bool true)) rfl (by kernel_rfl) (by kernel_rfl) (by kernel_rfl) (fun _ _ _ h => h) (Or.inl ⟨by rfl, ?_⟩) ht ?_
    · intro W9 hSw
      go_simp
    try simp only [Act.put, List.setIfInBounds_toArray, List.set_cons_zero, List.set_cons_succ]
    refine wpAnyH_take (i := 13) (oi := ⟨some _, _, _, _, _, _⟩) (v := (.bool true)) rfl (by kernel_rfl) (by kernel_rfl) (by kernel_rfl) (fun _ _ _ h => h) (Or.inl ⟨by rfl, ?_⟩) ht ?_
    · intro W9 hSw
      go_simp
    try simp only [Act.put, List.setIfInBounds_toArray, List.set_cons_zero, List.set_cons_succ]
    refine wpAnyH_take (i := 14) (oi := ⟨some _, _, _, _, _, _⟩) (v := (.bool true)) rfl (by kernel_rfl) (by kernel_rfl) (by kernel_rfl) (fun _ _ _ h => h) (Or.inl ⟨by rfl, ?_⟩) ht ?_
    · intro W9 hSw
      go_simp
    try simp only [Act.put, List.setIfInBounds_toArray, List.set_cons_zero, List.set_cons_succ]
    refine wpAnyH_take (i := 15) (oi := ⟨some _, _, _, _, _, _⟩) (v := (.bool true)) rfl (by kernel_rfl) (by kernel_rfl) (by kernel_rfl) (fun _ _ _ h => h) (Or.inl ⟨by rfl, ?_⟩) ht ?_
    · intro W9 hSw
      go_simp
    try simp only [Act.put, List.setIfInBounds_toArray, List.set_cons_zero, List.set_cons_succ]
    refine wpAnyH_done (by kernel_rfl) ?_ _
    have HZ := Lib.hid (HB.out.trans (ht.since.mono HB.out.size))
    clear ht
    go_wp2_with fail
    go_ret
    exact ⟨rfl, HZ.out⟩
  · have hz : ((q : Int) != 0) = true := by rw [bne_iff_ne]; omega
    go_upto_region 8 with (fail)
    go_quiet (fail)
    go_wp2_with fail
    go_ret
    exact ⟨rfl, below_drewN HB.out _⟩

end Go.Proofs.YtfolfibembplbaaGreatDoor

