/- The walks of the program's tellSchema and Compile (layer 11). (By gen_do.py.) -/
import Derived.Test.YtlhinefalkfjaaaGreatDoorDn
namespace Go.Proofs.YtlhinefalkfjaaaGreatDoor
open Go.RowKit Js Pt

theorem Sh.isSch_iff {k : Int} {b : Bool} {n : Nm.Num} {s : List UInt8} {l : List Vl} {m : List Js.Mem} : Sh.isSch (.mk k b n s l m) = true ↔ k = 1 ∨ k = 5 := by
  show (decide (k = 1) || decide (k = 5)) = true ↔ _
  simp
theorem TellP.fail {w W W' : World} {gm : Nat} {Y : Nat → Prop} {A A' : Option Addr} {acc : List Cm.Wn} {R : Cm.Res (List Cm.Node)} {c : Nat} {q : Cm.Names} {b : Nat} (h1 : But (LX gm A) w W) (hon : RowOn A A' w) (h2 : But (LX gm A') W W') (hR : R = .bad c q) (hc : ¬ c = 0) (hb : W.heap.size ≤ b) (hs : SpellAt W' b (text q) c) : TellP gm Y A acc R w (.returned (spellV b)) W' :=
  ⟨h1.trans h2 (fun b hb2 k => LX.back hon b hb2 k), .inr ⟨c, q, b, hR, hc, rfl, Nat.le_trans h1.size hb, hs⟩⟩
theorem ItKey.row11 {c : Cl} {nm : List UInt8} {v : Vl} {ks : List (List UInt8 × Nat)} {kcs : Array Value} (h : ItKey c ⟨nm, v, ks⟩ kcs.toList) : ∃ (y_1 : Int) (y_2 y_3 : Bool) (y_4 : List UInt8) (y_5 : Int) (y_6 : List UInt8) (y_7 : Option Addr) (y_8 y_9 : Nat) (y_a : Option Addr) (y_b y_c : Nat) (Az : Option Addr) (nz cz : Nat), kcs = #[.string ⟨nm.toArray⟩, .int .i64 y_1, .bool y_2, .bool y_3, .string ⟨y_4.toArray⟩, .int .i64 y_5, .string ⟨y_6.toArray⟩, .slice y_7 y_8 y_9, .slice y_a y_b y_c, .slice Az nz cz] := by
  obtain ⟨r, A, cp, h1, h2, _⟩ := h
  obtain ⟨y_1, y_2, y_3, y_4, y_5, y_6, y_7, y_8, y_9, y_a, y_b, y_c, h3⟩ := In.cells h2
  injection h3 with h3
  subst h3
  exact ⟨y_1, y_2, y_3, y_4, y_5, y_6, y_7, y_8, y_9, y_a, y_b, y_c, A, ks.length, cp, Array.toList_inj.1 h1⟩

set_option linter.unusedVariables false in
set_option linter.unusedSimpArgs false in
set_option maxRecDepth 100000 in
set_option maxHeartbeats 9000000 in
theorem tell_step (f : Nat) (IH : KeyC f) : TellC (f + 1) := by
  intro v hvf hwd gm Y A cp acc P w x S hE hM hS hx hlen
  obtain ⟨k, b, n, s, l, m⟩ := v
  obtain ⟨Al, e, B, d, rfl, q1, q2, q3, q4, q5, q6⟩ := In.form hx
  have HIH := Lib.hid IH
  have HE := Lib.hid hE
  have HM := Lib.hid hM
  have HS := Lib.hid hS
  have HM6 := Lib.hid q6
  have HWD := Lib.hid hwd
  have HLEN := Lib.hid hlen
  have hgm := hM.lt
  have hfew := hM.few
  have hRA : ∀ {b}, Bk A b → gm < b ∧ b < w.heap.size := fun k => hM.rowAt k
  have HMAY := Lib.hid (may_own hwd.1)
  have hml : m.length ≤ 1000000 := by
    have h : m.length ≤ sizeM m := sizeM_len m
    have h2 := hwd.2.1
    simp only [Vl.size] at h2; omega
  have HB0 := Lib.hid ((Below.refl w.heap.size w).alloc (Nat.le_refl _) (.cells #[.int .i64 k, .bool b, .bool n.neg, .string ⟨n.digits.toArray⟩, .int .i64 n.exp, .string ⟨s.toArray⟩, .slice Al l.length e, .slice B m.length d] 28))
  have HBOX := Lib.hid (Blk.new w 28 #[.int .i64 k, .bool b, .bool n.neg, .string ⟨n.digits.toArray⟩, .int .i64 n.exp, .string ⟨s.toArray⟩, .slice Al l.length e, .slice B m.length d])
  unfold maxLen at q4
  clear IH hE hM hS hx hwd hlen q1 q2 q5 q6
  go_enter Tryz.func16, Tryz.ntmps16
  go_upto_region 1 with (fail)
  generalize w.alloc (.cells #[.int .i64 k, .bool b, .bool n.neg, .string ⟨n.digits.toArray⟩, .int .i64 n.exp, .string ⟨s.toArray⟩, .slice Al l.length e, .slice B m.length d] 28) = w0 at *
  have HM0 := Lib.hid (HM.out.on HB0.out)
  have t0 := HM0.out.blk.one
  by_cases h200 : acc.length = 200
  · have hb2 : ((acc.length : Int) == 200) = true := by rw [beq_iff_eq]; omega
    go_wp2_with fail
    go_ret
    exact ⟨But.of (HB0.out.alloc HB0.out.size _), .inr ⟨5, P, w0.heap.size, Cm.node_full h200, by decide, rfl, HB0.out.size, (Blk.new w0 66 #[.string ⟨(text P).toArray⟩, .int .i64 5]).cell 0, (Blk.new w0 66 #[.string ⟨(text P).toArray⟩, .int .i64 5]).cell 1⟩⟩
  · have hb2 : ((acc.length : Int) == 200) = false := by rw [beq_eq_false_iff_ne]; omega
    have hal := (Below.refl w0.heap.size w0).alloc (Nat.le_refl _) (.cells #[.string ⟨(text P).toArray⟩, .bool false, .bool false, .slice none 0 0] 47)
    have HM1 := Lib.hid (HM0.out.on hal)
    have HBOX1 := Lib.hid (HBOX.out.on hal)
    have HB1 := Lib.hid (HB0.out.trans (hal.mono HB0.out.size))
    obtain ⟨flat, hown, hpush⟩ := RowX.push (It := ItW) (fun h => ItW.mono h) rfl HM1.out.row
    have HOWN := Lib.hid hown
    have HPUSH := Lib.hid (fun (g6 cap6 : Nat) (w6 : World) => hpush (w6 := w6) (g := g6) (cap := cap6) (a := .wait (text P) false false none 0 0) (cs := [.string ⟨(text P).toArray⟩, .bool false, .bool false, .slice none 0 0]) (Rn := fun _ => False) rfl (fun b h => h.elim) (by simp [Value.oneCell']) rfl)
    obtain ⟨i0, hi0, hz0, hz1, hz2⟩ := infoNode
    have hs0 := HB0.out.size
    have hbx := HBOX.out.lt
    clear hown hpush hal
    go_upto_region 5 with (refine wpList_append_lies _ rfl _ _ _ rfl (gm + 1) 47 i0 _ 4 48 Tryz.underlying31 hi0 hz0 hz1 hz2 rfl (by omega) (.slice A acc.length cp) acc.length flat rfl HOWN.out ⟨w0.heap.size, 0, none⟩ 1 1 [.string ⟨(text P).toArray⟩, .bool false, .bool false, .slice none 0 0] rfl rfl (World.news_of_block (heap_alloc_new w0 _)) (by simp [Value.oneCell']) (by omega) (by unfold maxLen; omega) (by omega) (by simp; omega) _ rfl ?_; intro g6 cap6 w6 hown6 hgr6 hat6 hlt6; have hro := row_on (RowX.le HM1.out.row).2.2 hgr6 hat6; have hrow6 := HPUSH.out g6 cap6 w6 hown6 hgr6 hat6; have HG := Lib.hid (HM1.out.grow hro.1 hro.2 hrow6 (by omega)); have HBX := Lib.hid (hro.1.blk HBOX1.out (fun k => by have := (hRA k).2; omega)); have HRO := Lib.hid hro; have t6 := (hro.1.blk HM1.out.blk (fun k => by have := (HM1.out.rowAt k).1; omega)).one; have f6 := (hro.1.blk HM1.out.blk (fun k => by have := (HM1.out.rowAt k).1; omega)).frozen 0; have l6 := (hro.1.blk HM1.out.blk (fun k => by have := (HM1.out.rowAt k).1; omega)).lt; clear hown6 hgr6 hat6 hlt6 hro hrow6)
    have hg6 : g6 ≠ w.heap.size := fun e => by
      rcases HRO.out.2 g6 ⟨_, rfl, rfl⟩ with k | k
      · have := (hRA k).2; omega
      · have : w0.heap.size < (w0.alloc (.cells #[.string ⟨(text P).toArray⟩, .bool false, .bool false, .slice none 0 0] 47)).heap.size := by simp
        omega
    have hgmb : gm ≠ w.heap.size := by omega
    have HT7 := Lib.hid HG.out
    have HX7 := Lib.hid (show Blk (w6.setCell ⟨gm, 0, none⟩ (.slice (some ⟨g6, 0, none⟩) (acc.length + 1) cap6)) w.heap.size 28 #[.int .i64 k, .bool b, .bool n.neg, .string ⟨n.digits.toArray⟩, .int .i64 n.exp, .string ⟨s.toArray⟩, .slice Al l.length e, .slice B m.length d] from (Below.heap_setCell w6 ⟨gm, 0, none⟩ (.slice (some ⟨g6, 0, none⟩) (acc.length + 1) cap6) w.heap.size (fun e => hgmb e.symm)).trans HBX.out)
    have HU7 := Lib.hid (show But (LX gm A) w (w6.setCell ⟨gm, 0, none⟩ (.slice (some ⟨g6, 0, none⟩) (acc.length + 1) cap6)) from ((But.of HB1.out).trans HRO.out.1 (fun _ _ k => .inr k)).set (p := ⟨gm, 0, none⟩) (.inr (.inl rfl)) _)
    have HR7 := Lib.hid (show RowOn A (some ⟨g6, 0, none⟩) w from fun b hb => (HRO.out.2 b hb).imp id (Nat.le_trans HB1.out.size))
    clear HG HBX HRO t6 f6 l6 HOWN HPUSH hi0 hz0 hz1 hz2 HM1 HBOX1 HB1 HM0 HBOX hs0 hbx t0
    generalize w6.setCell ⟨gm, 0, none⟩ (.slice (some ⟨g6, 0, none⟩) (acc.length + 1) cap6) = w7 at *
    obtain ⟨f0, f1, f2, f3, f4, f5, f6, f7⟩ := HX7.out.eight
    have t7 := HT7.out.blk.one
    have hbl := HX7.out.lt
    rw [List.length_append, List.length_singleton] at t7
    by_cases hk : k = 1
    · have hk1 : (k == 1) = true := by rw [hk]; rfl
      have hm0 : m = [] := HMAY.out.2.2.2.2.2.2.1 (by omega)
      go_upto_region 6 with (fail)
      obtain ⟨N7, hN7⟩ : ∃ N, acc.length + 1 = N := ⟨_, rfl⟩
      have hidx : acc.length < N7 := by omega
      have hidx2 : (acc.length : Int) < (N7 : Int) := by omega
      have ht0 : Blk w7 gm 68 #[.slice (some ⟨g6, 0, none⟩) N7 cap6] := by
        have := HT7.out.blk
        rw [List.length_append, List.length_singleton, hN7] at this
        exact this
      have HTD := Lib.hid (show Tk gm Y (some ⟨g6, 0, none⟩) cap6 (acc ++ [.wait (text P) false false none 0 0]) w7.drew from HT7.out.on (below_drewN (Below.refl _ _) 1))
      have HUD := Lib.hid (show But (LX gm A) w w7.drew from HU7.out.trans (But.of (below_drewN (Below.refl _ _) 1)) (fun _ _ k => k))
      have HG6 := Lib.hid hg6
      have HGX := Lib.hid (show gm ≠ g6 from by have := (HT7.out.rowAt ⟨_, rfl, rfl⟩).1; exact fun e => by simp only at this; omega)
      have HLXG := Lib.hid (show w.heap.size ≤ g6 ∨ LX gm A g6 from (HR7.out g6 ⟨_, rfl, rfl⟩).elim (fun q => .inr (.inr q)) .inl)
      clear HT7 HU7 t7 f0 f1 f2 f3 f4 f5 f6 f7
      refine wp_region_held_drew (S := (fun W9 => Blk W9 gm 68 #[.slice (some ⟨g6, 0, none⟩) N7 cap6] ∧ Blk W9 w.heap.size 28 #[.int .i64 k, .bool b, .bool n.neg, .string ⟨n.digits.toArray⟩, .int .i64 n.exp, .string ⟨s.toArray⟩, .slice Al l.length e, .slice B m.length d])) (by kernel_rfl) ⟨ht0, HX7.out⟩ (fun ht => ?_)
      generalize w7.drew = w8 at *
      refine wpAnyH_take (i := 0) (oi := ⟨some _, _, _, _, _, _⟩) (v := (.pointer (some ⟨gm, 0, none⟩))) rfl (by kernel_rfl) (by kernel_rfl) (by kernel_rfl) (fun _ _ _ h => h) (Or.inl ⟨by rfl, ?_⟩) ht ?_
      · intro W9 hSw
        go_simp
      try simp only [Act.put, List.setIfInBounds_toArray, List.set_cons_zero, List.set_cons_succ]
      refine wpAnyH_take (i := 1) (oi := ⟨some _, _, _, _, _, _⟩) (v := (.pointer (some ⟨gm, 0, none⟩))) rfl (by kernel_rfl) (by kernel_rfl) (by kernel_rfl) (fun _ _ _ h => h) (Or.inl ⟨by rfl, ?_⟩) ht ?_
      · intro W9 hSw
        go_simp
      try simp only [Act.put, List.setIfInBounds_toArray, List.set_cons_zero, List.set_cons_succ]
      refine wpAnyH_take (i := 2) (oi := ⟨some _, _, _, _, _, _⟩) (v := (.pointer (some ⟨gm, 0, none⟩))) rfl (by kernel_rfl) (by kernel_rfl) (by kernel_rfl) (fun _ _ _ h => h) (Or.inl ⟨by rfl, ?_⟩) ht ?_
      · intro W9 hSw
        go_simp
      try simp only [Act.put, List.setIfInBounds_toArray, List.set_cons_zero, List.set_cons_succ]
      refine wpAnyH_take (i := 3) (oi := ⟨some _, _, _, _, _, _⟩) (v := (.slice (some ⟨g6, 0, none⟩) N7 cap6)) rfl (by kernel_rfl) (by kernel_rfl) (by kernel_rfl) (fun _ _ _ h => h) (Or.inl ⟨by rfl, ?_⟩) ht ?_
      · intro W9 hSw
        have t0 := hSw.1.one
        go_simp
      try simp only [Act.put, List.setIfInBounds_toArray, List.set_cons_zero, List.set_cons_succ]
      refine wpAnyH_take (i := 4) (oi := ⟨some _, _, _, _, _, _⟩) (v := (.int .i64 acc.length)) rfl (by kernel_rfl) (by kernel_rfl) (by kernel_rfl) (fun _ _ _ h => h) (Or.inl ⟨by rfl, ?_⟩) ht ?_
      · intro W9 hSw
        go_simp
      try simp only [Act.put, List.setIfInBounds_toArray, List.set_cons_zero, List.set_cons_succ]
      refine wpAnyH_take (i := 5) (oi := ⟨some _, _, _, _, _, _⟩) (v := (.pointer (some ⟨gm, 0, none⟩))) rfl (by kernel_rfl) (by kernel_rfl) (by kernel_rfl) (fun _ _ _ h => h) (Or.inl ⟨by rfl, ?_⟩) ht ?_
      · intro W9 hSw
        go_simp
      try simp only [Act.put, List.setIfInBounds_toArray, List.set_cons_zero, List.set_cons_succ]
      refine wpAnyH_take (i := 6) (oi := ⟨some _, _, _, _, _, _⟩) (v := (.pointer (some ⟨gm, 0, none⟩))) rfl (by kernel_rfl) (by kernel_rfl) (by kernel_rfl) (fun _ _ _ h => h) (Or.inl ⟨by rfl, ?_⟩) ht ?_
      · intro W9 hSw
        go_simp
      try simp only [Act.put, List.setIfInBounds_toArray, List.set_cons_zero, List.set_cons_succ]
      refine wpAnyH_take (i := 7) (oi := ⟨some _, _, _, _, _, _⟩) (v := (.pointer (some ⟨gm, 0, none⟩))) rfl (by kernel_rfl) (by kernel_rfl) (by kernel_rfl) (fun _ _ _ h => h) (Or.inl ⟨by rfl, ?_⟩) ht ?_
      · intro W9 hSw
        go_simp
      try simp only [Act.put, List.setIfInBounds_toArray, List.set_cons_zero, List.set_cons_succ]
      refine wpAnyH_take (i := 8) (oi := ⟨some _, _, _, _, _, _⟩) (v := (.slice (some ⟨g6, 0, none⟩) N7 cap6)) rfl (by kernel_rfl) (by kernel_rfl) (by kernel_rfl) (fun _ _ _ h => h) (Or.inl ⟨by rfl, ?_⟩) ht ?_
      · intro W9 hSw
        have t0 := hSw.1.one
        go_simp
      try simp only [Act.put, List.setIfInBounds_toArray, List.set_cons_zero, List.set_cons_succ]
      refine wpAnyH_take (i := 9) (oi := ⟨some _, _, _, _, _, _⟩) (v := (.int .i64 acc.length)) rfl (by kernel_rfl) (by kernel_rfl) (by kernel_rfl) (fun _ _ _ h => h) (Or.inl ⟨by rfl, ?_⟩) ht ?_
      · intro W9 hSw
        go_simp
      try simp only [Act.put, List.setIfInBounds_toArray, List.set_cons_zero, List.set_cons_succ]
      refine wpAnyH_take (i := 10) (oi := ⟨some _, _, _, _, _, _⟩) (v := (.pointer (some ⟨w.heap.size, 1, none⟩))) rfl (by kernel_rfl) (by kernel_rfl) (by kernel_rfl) (fun _ _ _ h => h) (Or.inl ⟨by rfl, ?_⟩) ht ?_
      · intro W9 hSw
        go_simp
      try simp only [Act.put, List.setIfInBounds_toArray, List.set_cons_zero, List.set_cons_succ]
      refine wpAnyH_take (i := 11) (oi := ⟨some _, _, _, _, _, _⟩) (v := (.bool b)) rfl (by kernel_rfl) (by kernel_rfl) (by kernel_rfl) (fun _ _ _ h => h) (Or.inl ⟨by rfl, ?_⟩) ht ?_
      · intro W9 hSw
        obtain ⟨f0, f1, f2, f3, f4, f5, f6, f7⟩ := hSw.2.eight
        go_simp
      try simp only [Act.put, List.setIfInBounds_toArray, List.set_cons_zero, List.set_cons_succ]
      refine wpAnyH_take (i := 12) (oi := ⟨some _, _, _, _, _, _⟩) (v := (.pointer (some ⟨g6, acc.length * 4, none⟩))) rfl (by kernel_rfl) (by kernel_rfl) (by kernel_rfl) (fun _ _ _ h => h) (Or.inl ⟨by rfl, ?_⟩) ht ?_
      · intro W9 hSw
        go_simp
      try simp only [Act.put, List.setIfInBounds_toArray, List.set_cons_zero, List.set_cons_succ]
      refine wpAnyH_take (i := 13) (oi := ⟨some _, _, _, _, _, _⟩) (v := (.pointer (some ⟨g6, acc.length * 4 + 1, none⟩))) rfl (by kernel_rfl) (by kernel_rfl) (by kernel_rfl) (fun _ _ _ h => h) (Or.inl ⟨by rfl, ?_⟩) ht ?_
      · intro W9 hSw
        go_simp
      try simp only [Act.put, List.setIfInBounds_toArray, List.set_cons_zero, List.set_cons_succ]
      refine wpAnyH_ready (rs := [14]) (by kernel_rfl) (by simp) ?_
      refine AllReadyH.cons (o := ⟨none, _, _, _, _, _⟩) rfl (fun K hK => ?_) (AllReadyH.nil)
      obtain ⟨gr, hgr, hcl, hfr, _, hgl, hst⟩ := HTD.out.setC (x' := (.wait (text P) true false none 0 0)) (wait_at acc _ []) (j := 1) (u := .bool true) (by omega) (fun c => rfl) rfl
      obtain rfl : g6 = gr := by injection hgr with e; injection e
      rw [wait_set] at hst
      have c0 := hcl 1 _ rfl
      go_simp
      refine via10 (K := K) (fun W9 => (fun W9 => Blk W9 gm 68 #[.slice (some ⟨g6, 0, none⟩) N7 cap6] ∧ Blk W9 w.heap.size 28 #[.int .i64 k, .bool b, .bool n.neg, .string ⟨n.digits.toArray⟩, .int .i64 n.exp, .string ⟨s.toArray⟩, .slice Al l.length e, .slice B m.length d]) W9 ∧ Tk gm Y (some ⟨g6, 0, none⟩) cap6 (acc ++ [(.wait (text P) true false none 0 0)]) W9 ∧ But (LX gm A) w W9) ⟨⟨(Below.heap_setCell _ ⟨g6, acc.length * 4 + 1, none⟩ _ gm HGX.out).trans ht.1, (Below.heap_setCell _ ⟨g6, acc.length * 4 + 1, none⟩ _ w.heap.size (fun e => HG6.out e.symm)).trans ht.2⟩, hst, HUD.out.set (p := ⟨g6, acc.length * 4 + 1, none⟩) HLXG.out _⟩ ?_
      rintro w9 ⟨ht9, hr9, hu9⟩
      have HT9 := Lib.hid hr9
      have HU9 := Lib.hid hu9
      clear hr9 hu9 hst hcl hgr hfr c0 hgl
      refine hK.out _ _ ht9 (fun ht => ?_)
      clear hK K ht9
      try simp only [Act.put, List.setIfInBounds_toArray, List.set_cons_zero, List.set_cons_succ]
      refine wpAnyH_take (i := 15) (oi := ⟨some _, _, _, _, _, _⟩) (v := (.pointer (some ⟨g6, acc.length * 4, none⟩))) rfl (by kernel_rfl) (by kernel_rfl) (by kernel_rfl) (fun _ _ _ h => h) (Or.inl ⟨by rfl, ?_⟩) ht ?_
      · intro W9 hSw
        go_simp
      try simp only [Act.put, List.setIfInBounds_toArray, List.set_cons_zero, List.set_cons_succ]
      refine wpAnyH_take (i := 16) (oi := ⟨some _, _, _, _, _, _⟩) (v := (.pointer (some ⟨g6, acc.length * 4 + 2, none⟩))) rfl (by kernel_rfl) (by kernel_rfl) (by kernel_rfl) (fun _ _ _ h => h) (Or.inl ⟨by rfl, ?_⟩) ht ?_
      · intro W9 hSw
        go_simp
      try simp only [Act.put, List.setIfInBounds_toArray, List.set_cons_zero, List.set_cons_succ]
      refine wpAnyH_ready (rs := [17]) (by kernel_rfl) (by simp) ?_
      refine AllReadyH.cons (o := ⟨none, _, _, _, _, _⟩) rfl (fun K hK => ?_) (AllReadyH.nil)
      obtain ⟨gr, hgr, hcl, hfr, _, hgl, hst⟩ := HT9.out.setC (x' := (.wait (text P) true b none 0 0)) (wait_at acc _ []) (j := 2) (u := .bool b) (by omega) (fun c => rfl) rfl
      obtain rfl : g6 = gr := by injection hgr with e; injection e
      rw [wait_set] at hst
      have c0 := hcl 2 _ rfl
      go_simp
      refine via10 (K := K) (fun W9 => (fun W9 => Blk W9 gm 68 #[.slice (some ⟨g6, 0, none⟩) N7 cap6] ∧ Blk W9 w.heap.size 28 #[.int .i64 k, .bool b, .bool n.neg, .string ⟨n.digits.toArray⟩, .int .i64 n.exp, .string ⟨s.toArray⟩, .slice Al l.length e, .slice B m.length d]) W9 ∧ Tk gm Y (some ⟨g6, 0, none⟩) cap6 (acc ++ [(.wait (text P) true b none 0 0)]) W9 ∧ But (LX gm A) w W9) ⟨⟨(Below.heap_setCell _ ⟨g6, acc.length * 4 + 2, none⟩ _ gm HGX.out).trans ht.1, (Below.heap_setCell _ ⟨g6, acc.length * 4 + 2, none⟩ _ w.heap.size (fun e => HG6.out e.symm)).trans ht.2⟩, hst, HU9.out.set (p := ⟨g6, acc.length * 4 + 2, none⟩) HLXG.out _⟩ ?_
      rintro w9 ⟨ht9, hr9, hu9⟩
      have HTF := Lib.hid hr9
      have HUF := Lib.hid hu9
      clear hr9 hu9 hst hcl hgr hfr c0 hgl
      refine hK.out _ _ ht9 (fun ht => ?_)
      clear hK K ht9
      try simp only [Act.put, List.setIfInBounds_toArray, List.set_cons_zero, List.set_cons_succ]
      refine wpAnyH_done (by kernel_rfl) ?_ _
      clear ht
      go_wp2_with fail
      go_ret
      have hd := (HTF.out.done (Y' := Y) (keys := []) (fun _ h => h) (wait_at acc _ []) (Rn := fun _ => False) (fun i q h => by simp at h) (Nat.le_refl _) (Nat.zero_le _) (fun _ h => h.elim))
      rw [wait_set] at hd
      have hok := Cm.node_ok (f := f) (P := P) (k := k) (b := b) (n := n) (s := s) (l := l) (m := m) h200 (by rw [hm0, Cm.memsN])
      rw [show decide (k = 1) = true from decide_eq_true hk] at hok
      exact ⟨HUF.out, .inl ⟨_, _, cap6, hok, rfl, hd, HR7.out⟩⟩
    · have hk1 : (k == 1) = false := by rw [beq_eq_false_iff_ne]; exact hk
      have HBF := Lib.hid (HMAY.out.2.2.1 hk)
      have HW7 := Lib.hid (show SchW w gm Y A #[.int .i64 k, .bool b, .bool n.neg, .string ⟨n.digits.toArray⟩, .int .i64 n.exp, .string ⟨s.toArray⟩, .slice Al l.length e, .slice B m.length d] (some ⟨g6, 0, none⟩) cap6 acc P [] none 0 [] w7 from SchW.start HM.out HU7.out HX7.out HT7.out HR7.out (fun k => hg6 (by obtain ⟨ad, e, e2⟩ := k; injection e with e; subst e; exact e2.symm)))
      have HND := Lib.hid (fun keys r => Cm.node_ok (f := f) (P := P) (k := k) (b := b) (n := n) (s := s) (l := l) (m := m) (keys := keys) (r := r) h200)
      have HNB := Lib.hid (fun c p => Cm.node_bad (f := f) (P := P) (k := k) (b := b) (n := n) (s := s) (l := l) (m := m) (c := c) (p := p) h200)
      clear HT7 HU7 HX7 HR7 HM HB0 hg6
      go_wp2_with fail
      clear f0 f1 f2 f3 f4 f5 f6 f7 t7 hbl
      go_loopw [56] (fun i56 wr => ∃ (i : Nat) (A2 : Option Addr) (c2 : Nat) (r2 : List Cm.Node) (Ak : Option Addr) (ck : Nat) (keys : List Cm.Key), i56 = .int .i64 i ∧ i ≤ m.length ∧ keys.length = i ∧ SchW w gm Y A #[.int .i64 k, .bool b, .bool n.neg, .string ⟨n.digits.toArray⟩, .int .i64 n.exp, .string ⟨s.toArray⟩, .slice Al l.length e, .slice B m.length d] A2 c2 acc P r2 Ak ck keys wr ∧ Cm.memsN (Cm.node f) P (acc.length + 1) (m.take i) = .ok (keys, r2)) (fun i _ => m.length - (intOf i).toNat)
      case atStart => exact ⟨0, _, cap6, [], none, 0, [], rfl, Nat.zero_le _, rfl, HW7.out, by simp [Cm.memsN]⟩
      case round =>
        obtain ⟨i, A2, c2, r2, Ak, ck, keys, rfl, hi, hlen2, hSW, hmode⟩ := hrel
        clear HW7
        have HW := Lib.hid hSW
        have HMD := Lib.hid hmode
        have HKL := Lib.hid hlen2
        clear hSW hmode hlen2
        by_cases hlt : i < m.length
        · have hlt2 : (i : Int) < (m.length : Int) := by omega
          obtain ⟨g, o, y, rfl, hy, hnm, hc⟩ := HM6.out i _ (List.getElem?_eq_getElem hlt)
          obtain ⟨y_1, y_2, y_3, y_4, y_5, y_6, y_7, y_8, y_9, y_a, y_b, y_c, rfl⟩ := In.cells hy
          have hcl : Cl.le (w.on S) wr.cell? := (HW.out.but.on (S' := S) (fun b k => k) (fun b k _ => (HS.out b k).2.1)).trans (on_all _ _)
          have hsv := sizeM_mem (List.getElem_mem hlt)
          have hsl2 := (slimM_iff 1000000 m).1 (by have h := HWD.out.2.2; simp only [Vl.slim] at h; exact h.2.2.2) _ (List.getElem_mem hlt)
          have hmy2 := ((mayM_iff m).1 HMAY.out.2.2.2.2.2.2.2.2.2.2.1 _ (List.getElem_mem hlt)).2
          have HNX := Lib.hid (Cm.keyN_next hlt HMD.out)
          have e9 := hcl _ _ hnm
          have HY := Lib.hid hy
          obtain ⟨e0, e1, e2, e3, e4, e5, e6, e7⟩ := (hc.keep hcl).eight
          have hgl := World.block_lt_of_cell? _ _ e9
          have hszz := HWD.out.2.1
          have hlnn := HLEN.out
          clear hy hnm hc hcl
          generalize m[i]'hlt = q at *
          obtain ⟨nm, v⟩ := q
          simp only at hsv hsl2 hmy2 e9 HNX HY
          obtain ⟨hnl, hvsl⟩ := hsl2
          simp only [Vl.size] at hvf hszz hlnn
          have hvz : v.size ≤ f ∧ v.size ≤ 1000000 ∧ (text P).length + 5000000 * v.size + 4500000 ≤ 10000000000000 := by omega
          go_upto_region 11 with (fail)
          have hbq := (Below.refl wr.heap.size wr).alloc (Nat.le_refl _) (.cells #[.string ⟨nm.toArray⟩, .int .i64 y_1, .bool y_2, .bool y_3, .string ⟨y_4.toArray⟩, .int .i64 y_5, .string ⟨y_6.toArray⟩, .slice y_7 y_8 y_9, .slice y_a y_b y_c] 88)
          have HWa := Lib.hid (HW.out.next hbq)
          have HQ := Lib.hid (Blk.new wr 88 #[.string ⟨nm.toArray⟩, .int .i64 y_1, .bool y_2, .bool y_3, .string ⟨y_4.toArray⟩, .int .i64 y_5, .string ⟨y_6.toArray⟩, .slice y_7 y_8 y_9, .slice y_a y_b y_c])
          clear HW hbq e0 e1 e2 e3 e4 e5 e6 e7 e9 hgl hszz hlnn
          generalize wr.alloc (.cells #[.string ⟨nm.toArray⟩, .int .i64 y_1, .bool y_2, .bool y_3, .string ⟨y_4.toArray⟩, .int .i64 y_5, .string ⟨y_6.toArray⟩, .slice y_7 y_8 y_9, .slice y_a y_b y_c] 88) = wa at *
          generalize wr.heap.size = gq at *
          have HSO := Lib.hid (show ∀ b, S b → b < wa.heap.size ∧ ¬ LX gm A2 b ∧ ¬ (Y b ∨ Bk Ak b) from fun b hb => by
            obtain ⟨h1, h2, h3⟩ := HS.out b hb
            refine ⟨Nat.lt_of_lt_of_le h1 HWa.out.but.size, fun k => h2 (LX.back HWa.out.on b h1 k), fun k => ?_⟩
            rcases k with k | k
            · exact h3 k
            · have := (HWa.out.keyAt k).1; omega)
          have HCALL := Lib.hid (HIH.out nm v hvz.1 ⟨hmy2, hvz.2.1, hvsl⟩ hnl gm _ A2 c2 _ P wa y_1 y_2 y_3 y_4 y_5 y_6 y_7 y_8 y_9 y_a y_b y_c S (HE.out.but hgm (fun b k => (hRA k).1) HWa.out.but) HWa.out.maker HSO.out (In.keep (HWa.out.but.on (fun b k => k) (fun b k _ => (HS.out b k).2.1)) _ _ HY.out) hvz.2.2)
          have HN2 := Lib.hid (show (acc ++ Cm.Wn.wait (text P) false false Ak keys.length ck :: r2.map Cm.Wn.ok).length = acc.length + 1 + r2.length by simp; omega)
          rw [HN2.out] at HCALL
          obtain ⟨q0, q1, q2, q3, q4, q5, q6, q7, q8⟩ := HQ.out.nine
          have hql := HQ.out.lt
          go_wp2_with fail
          refine HCALL.out.mono ?_
          rintro e8 w9 ⟨hbt, ⟨ks, a, A4, c4, kcs, Rn, hra, rfl, hmk, hron, hRn, hit⟩ | ⟨c, qq, bb, hra, hc0, rfl, hbl, hsp⟩⟩
          · obtain ⟨z_1, z_2, z_3, z_4, z_5, z_6, z_7, z_8, z_9, z_a, z_b, z_c, Az, nz, cz, rfl⟩ := ItKey.row11 hit
            have HW9 := Lib.hid (HWa.out.call hbt hron hmk)
            have HMN := Lib.hid (HNX.out.1 ks a hra)
            have HIT := Lib.hid hit
            have HRN := Lib.hid hRn
            clear hbt hmk hron hra hit hRn HWa HQ HCALL q0 q1 q2 q3 q4 q5 q6 q7 q8 hql HNX HSO HN2
            go_upto_region 14 with (fail)
            have hal := (Below.refl w9.heap.size w9).alloc (Nat.le_refl _) (.cells #[.string ⟨nm.toArray⟩, .int .i64 z_1, .bool z_2, .bool z_3, .string ⟨z_4.toArray⟩, .int .i64 z_5, .string ⟨z_6.toArray⟩, .slice z_7 z_8 z_9, .slice z_a z_b z_c, .slice Az nz cz] 55)
            have HWb := Lib.hid (HW9.out.next hal)
            have HKY := Lib.hid (Blk.new w9 55 #[.string ⟨nm.toArray⟩, .int .i64 z_1, .bool z_2, .bool z_3, .string ⟨z_4.toArray⟩, .int .i64 z_5, .string ⟨z_6.toArray⟩, .slice z_7 z_8 z_9, .slice z_a z_b z_c, .slice Az nz cz])
            have HITb := Lib.hid (hal |> fun h => ItKey.mono (on_keep (w := w9) (w' := w9.alloc (.cells #[.string ⟨nm.toArray⟩, .int .i64 z_1, .bool z_2, .bool z_3, .string ⟨z_4.toArray⟩, .int .i64 z_5, .string ⟨z_6.toArray⟩, .slice z_7 z_8 z_9, .slice z_a z_b z_c, .slice Az nz cz] 55)) (S := Rn) (S' := Rn) (fun b h _ => h) (fun b h _ => hal.block b (HRN.out b h).1)) HIT.out)
            have HRNb := Lib.hid (fun b (h : Rn b) => (⟨Nat.lt_of_lt_of_le (HRN.out b h).1 hal.size, (HRN.out b h).2⟩ : b < (w9.alloc (.cells #[.string ⟨nm.toArray⟩, .int .i64 z_1, .bool z_2, .bool z_3, .string ⟨z_4.toArray⟩, .int .i64 z_5, .string ⟨z_6.toArray⟩, .slice z_7 z_8 z_9, .slice z_a z_b z_c, .slice Az nz cz] 55)).heap.size ∧ ¬ LX gm A4 b ∧ ¬ (Y b ∨ Bk Ak b)))
            have HKX := Lib.hid (show ¬ Bk Ak w9.heap.size ∧ ¬ LX gm A4 w9.heap.size from ⟨fun k => by have := (HW9.out.keyAt k).2; omega, fun k => by
              rcases k with k | k
              · have := HW9.out.maker.lt; omega
              · have := (HW9.out.maker.rowAt k).2; omega⟩)
            clear HW9 HIT HRN hal
            generalize w9.alloc (.cells #[.string ⟨nm.toArray⟩, .int .i64 z_1, .bool z_2, .bool z_3, .string ⟨z_4.toArray⟩, .int .i64 z_5, .string ⟨z_6.toArray⟩, .slice z_7 z_8 z_9, .slice z_a z_b z_c, .slice Az nz cz] 55) = wb at *
            generalize w9.heap.size = gy at *
            obtain ⟨N4, hN4⟩ : ∃ N, (acc ++ Cm.Wn.wait (text P) false false Ak keys.length ck :: (r2 ++ a).map Cm.Wn.ok).length = N := ⟨_, rfl⟩
            have hN4l : acc.length < N4 ∧ N4 ≤ 200 := ⟨by rw [← hN4]; simp, by rw [← hN4]; exact HWb.out.maker.few⟩
            have HBT := Lib.hid (show Blk wb gm 68 #[.slice A4 N4 c4] by rw [← hN4]; exact HWb.out.maker.blk)
            clear hN4
            obtain ⟨gr, hA4⟩ : ∃ gr, A4 = some ⟨gr, 0, none⟩ := by
              obtain ⟨gr, h, _⟩ := HWb.out.maker.setC (x' := .wait (text P) false false Ak 0 0) (wait_at acc _ _) (j := 3) (u := .slice Ak 0 0) (by omega) (fun c => rfl) rfl
              exact ⟨gr, h⟩
            subst hA4
            have hidx4 : (acc.length : Int) < (N4 : Int) := by omega
            have hggm : gm ≠ gr := by have := (HWb.out.maker.rowAt ⟨_, rfl, rfl⟩).1; exact fun e => by simp only at this; omega
            have hgyr : gy ≠ gr := fun e => HKX.out.2 (.inr ⟨_, rfl, e⟩)
            have hksz : keys.length ≤ 1000000 := by have := HKL.out; omega
            have HKL2 := Lib.hid (show (keys ++ [(⟨nm, v, ks⟩ : Cm.Key)]).length = i + 1 by rw [List.length_append, HKL.out]; rfl)
            have HDR := Lib.hid (show SchW w gm Y A #[.int .i64 k, .bool b, .bool n.neg, .string ⟨n.digits.toArray⟩, .int .i64 n.exp, .string ⟨s.toArray⟩, .slice Al l.length e, .slice (some ⟨g, o, none⟩) m.length d] (some ⟨gr, 0, none⟩) c4 acc P (r2 ++ a) Ak ck keys wb.drew from HWb.out.next (below_drewN (Below.refl _ _) 1))
            have HRD := Lib.hid (show ∀ b, Rn b → b < wb.drew.heap.size ∧ ¬ LX gm (some ⟨gr, 0, none⟩) b ∧ ¬ (Y b ∨ Bk Ak b) from HRNb.out)
            have HID := Lib.hid (show ItKey (wb.drew.on Rn) ⟨nm, v, ks⟩ [.string ⟨nm.toArray⟩, .int .i64 z_1, .bool z_2, .bool z_3, .string ⟨z_4.toArray⟩, .int .i64 z_5, .string ⟨z_6.toArray⟩, .slice z_7 z_8 z_9, .slice z_a z_b z_c, .slice Az nz cz] from HITb.out)
            refine wp_region_held_drew (S := (fun W9 => Blk W9 gm 68 #[.slice (some ⟨gr, 0, none⟩) N4 c4] ∧ Blk W9 gy 55 #[.string ⟨nm.toArray⟩, .int .i64 z_1, .bool z_2, .bool z_3, .string ⟨z_4.toArray⟩, .int .i64 z_5, .string ⟨z_6.toArray⟩, .slice z_7 z_8 z_9, .slice z_a z_b z_c, .slice Az nz cz])) (by kernel_rfl) ⟨HBT.out, HKY.out⟩ (fun ht => ?_)
            clear HWb HRNb HITb HBT HKY
            generalize wb.drew = w8 at *
            refine wpAnyH_take (i := 0) (oi := ⟨some _, _, _, _, _, _⟩) (v := (.pointer (some ⟨gm, 0, none⟩))) rfl (by kernel_rfl) (by kernel_rfl) (by kernel_rfl) (fun _ _ _ h => h) (Or.inl ⟨by rfl, ?_⟩) ht ?_
            · intro W9 hSw
              go_simp
            try simp only [Act.put, List.setIfInBounds_toArray, List.set_cons_zero, List.set_cons_succ]
            refine wpAnyH_take (i := 1) (oi := ⟨some _, _, _, _, _, _⟩) (v := (.pointer (some ⟨gm, 0, none⟩))) rfl (by kernel_rfl) (by kernel_rfl) (by kernel_rfl) (fun _ _ _ h => h) (Or.inl ⟨by rfl, ?_⟩) ht ?_
            · intro W9 hSw
              go_simp
            try simp only [Act.put, List.setIfInBounds_toArray, List.set_cons_zero, List.set_cons_succ]
            refine wpAnyH_take (i := 2) (oi := ⟨some _, _, _, _, _, _⟩) (v := (.pointer (some ⟨gm, 0, none⟩))) rfl (by kernel_rfl) (by kernel_rfl) (by kernel_rfl) (fun _ _ _ h => h) (Or.inl ⟨by rfl, ?_⟩) ht ?_
            · intro W9 hSw
              go_simp
            try simp only [Act.put, List.setIfInBounds_toArray, List.set_cons_zero, List.set_cons_succ]
            refine wpAnyH_take (i := 3) (oi := ⟨some _, _, _, _, _, _⟩) (v := (.slice (some ⟨gr, 0, none⟩) N4 c4)) rfl (by kernel_rfl) (by kernel_rfl) (by kernel_rfl) (fun _ _ _ h => h) (Or.inl ⟨by rfl, ?_⟩) ht ?_
            · intro W9 hSw
              have t0 := hSw.1.one
              go_simp
            try simp only [Act.put, List.setIfInBounds_toArray, List.set_cons_zero, List.set_cons_succ]
            refine wpAnyH_take (i := 4) (oi := ⟨some _, _, _, _, _, _⟩) (v := (.int .i64 acc.length)) rfl (by kernel_rfl) (by kernel_rfl) (by kernel_rfl) (fun _ _ _ h => h) (Or.inl ⟨by rfl, ?_⟩) ht ?_
            · intro W9 hSw
              go_simp
            try simp only [Act.put, List.setIfInBounds_toArray, List.set_cons_zero, List.set_cons_succ]
            refine wpAnyH_take (i := 5) (oi := ⟨some _, _, _, _, _, _⟩) (v := (.pointer (some ⟨gm, 0, none⟩))) rfl (by kernel_rfl) (by kernel_rfl) (by kernel_rfl) (fun _ _ _ h => h) (Or.inl ⟨by rfl, ?_⟩) ht ?_
            · intro W9 hSw
              go_simp
            try simp only [Act.put, List.setIfInBounds_toArray, List.set_cons_zero, List.set_cons_succ]
            refine wpAnyH_take (i := 6) (oi := ⟨some _, _, _, _, _, _⟩) (v := (.pointer (some ⟨gm, 0, none⟩))) rfl (by kernel_rfl) (by kernel_rfl) (by kernel_rfl) (fun _ _ _ h => h) (Or.inl ⟨by rfl, ?_⟩) ht ?_
            · intro W9 hSw
              go_simp
            try simp only [Act.put, List.setIfInBounds_toArray, List.set_cons_zero, List.set_cons_succ]
            refine wpAnyH_take (i := 7) (oi := ⟨some _, _, _, _, _, _⟩) (v := (.pointer (some ⟨gm, 0, none⟩))) rfl (by kernel_rfl) (by kernel_rfl) (by kernel_rfl) (fun _ _ _ h => h) (Or.inl ⟨by rfl, ?_⟩) ht ?_
            · intro W9 hSw
              go_simp
            try simp only [Act.put, List.setIfInBounds_toArray, List.set_cons_zero, List.set_cons_succ]
            refine wpAnyH_take (i := 8) (oi := ⟨some _, _, _, _, _, _⟩) (v := (.slice (some ⟨gr, 0, none⟩) N4 c4)) rfl (by kernel_rfl) (by kernel_rfl) (by kernel_rfl) (fun _ _ _ h => h) (Or.inl ⟨by rfl, ?_⟩) ht ?_
            · intro W9 hSw
              have t0 := hSw.1.one
              go_simp
            try simp only [Act.put, List.setIfInBounds_toArray, List.set_cons_zero, List.set_cons_succ]
            refine wpAnyH_take (i := 9) (oi := ⟨some _, _, _, _, _, _⟩) (v := (.int .i64 acc.length)) rfl (by kernel_rfl) (by kernel_rfl) (by kernel_rfl) (fun _ _ _ h => h) (Or.inl ⟨by rfl, ?_⟩) ht ?_
            · intro W9 hSw
              go_simp
            try simp only [Act.put, List.setIfInBounds_toArray, List.set_cons_zero, List.set_cons_succ]
            refine wpAnyH_take (i := 10) (oi := ⟨some _, _, _, _, _, _⟩) (v := (.pointer (some ⟨gr, acc.length * 4, none⟩))) rfl (by kernel_rfl) (by kernel_rfl) (by kernel_rfl) (fun _ _ _ h => h) (Or.inl ⟨by rfl, ?_⟩) ht ?_
            · intro W9 hSw
              go_simp
            try simp only [Act.put, List.setIfInBounds_toArray, List.set_cons_zero, List.set_cons_succ]
            refine wpAnyH_take (i := 11) (oi := ⟨some _, _, _, _, _, _⟩) (v := (.pointer (some ⟨gr, acc.length * 4 + 3, none⟩))) rfl (by kernel_rfl) (by kernel_rfl) (by kernel_rfl) (fun _ _ _ h => h) (Or.inl ⟨by rfl, ?_⟩) ht ?_
            · intro W9 hSw
              go_simp
            try simp only [Act.put, List.setIfInBounds_toArray, List.set_cons_zero, List.set_cons_succ]
            refine wpAnyH_take (i := 13) (oi := ⟨some _, _, _, _, _, _⟩) (v := (.agg #[.string ⟨nm.toArray⟩, .int .i64 z_1, .bool z_2, .bool z_3, .string ⟨z_4.toArray⟩, .int .i64 z_5, .string ⟨z_6.toArray⟩, .slice z_7 z_8 z_9, .slice z_a z_b z_c, .slice Az nz cz])) rfl (by kernel_rfl) (by kernel_rfl) (by kernel_rfl) (fun _ _ _ h => h) (Or.inl ⟨by rfl, ?_⟩) ht ?_
            · intro W9 hSw
              obtain ⟨s0, s1, s2, s3, s4, s5, s6, s7, s8, s9⟩ := hSw.2.ten
              go_simp
            try simp only [Act.put, List.setIfInBounds_toArray, List.set_cons_zero, List.set_cons_succ]
            refine wpAnyH_ready (rs := [12, 14]) (by kernel_rfl) (by simp) ?_
            refine AllReadyH.cons (o := ⟨some _, _, _, _, _, _⟩) rfl (fun K hK => ?_) (AllReadyH.cons (o := ⟨some _, _, _, _, _, _⟩) rfl (fun K hK => ?_) (AllReadyH.nil))
            · obtain ⟨gr2, hgr2, hcl, _⟩ := HDR.out.maker.setC (x' := .wait (text P) false false Ak 0 0) (wait_at acc _ _) (j := 3) (u := .slice Ak 0 0) (by omega) (fun c => rfl) rfl
              obtain rfl : gr = gr2 := by injection hgr2 with e; injection e
              have c3 := hcl 3 _ rfl
              go_simp
              refine hK.out _ _ ht (fun ht => ?_)
              clear hK K c3 hcl hgr2
              try simp only [Act.put, List.setIfInBounds_toArray, List.set_cons_zero, List.set_cons_succ]
              refine wpAnyH_ready (rs := [14]) (by kernel_rfl) (by simp) ?_
              refine AllReadyH.cons (o := ⟨some _, _, _, _, _, _⟩) rfl (fun K hK => ?_) (AllReadyH.nil)
              go_simp
              refine via10 (K := K) (fun W9 => (fun W9 => Blk W9 gm 68 #[.slice (some ⟨gr, 0, none⟩) N4 c4] ∧ Blk W9 gy 55 #[.string ⟨nm.toArray⟩, .int .i64 z_1, .bool z_2, .bool z_3, .string ⟨z_4.toArray⟩, .int .i64 z_5, .string ⟨z_6.toArray⟩, .slice z_7 z_8 z_9, .slice z_a z_b z_c, .slice Az nz cz]) W9 ∧ Blk W9 w8.heap.size 55 #[.string ⟨nm.toArray⟩, .int .i64 z_1, .bool z_2, .bool z_3, .string ⟨z_4.toArray⟩, .int .i64 z_5, .string ⟨z_6.toArray⟩, .slice z_7 z_8 z_9, .slice z_a z_b z_c, .slice Az nz cz] ∧ SchW w gm Y A #[.int .i64 k, .bool b, .bool n.neg, .string ⟨n.digits.toArray⟩, .int .i64 n.exp, .string ⟨s.toArray⟩, .slice Al l.length e, .slice (some ⟨g, o, none⟩) m.length d] (some ⟨gr, 0, none⟩) c4 acc P (r2 ++ a) Ak ck keys W9 ∧ (∀ b, Rn b → b < W9.heap.size ∧ ¬ LX gm (some ⟨gr, 0, none⟩) b ∧ ¬ (Y b ∨ Bk Ak b)) ∧ ItKey (W9.on Rn) ⟨nm, v, ks⟩ [.string ⟨nm.toArray⟩, .int .i64 z_1, .bool z_2, .bool z_3, .string ⟨z_4.toArray⟩, .int .i64 z_5, .string ⟨z_6.toArray⟩, .slice z_7 z_8 z_9, .slice z_a z_b z_c, .slice Az nz cz]) ⟨⟨ht.1.alloc _, ht.2.alloc _⟩, Blk.new w8 _ _, HDR.out.next ((Below.refl _ _).alloc (Nat.le_refl _) _), fun b h => ⟨Nat.lt_of_lt_of_le (HRD.out b h).1 (by simp), (HRD.out b h).2⟩, ItKey.mono (on_keep (fun b h _ => h) (fun b h _ => ((Below.refl w8.heap.size w8).alloc (Nat.le_refl _) _).block b (HRD.out b h).1)) HID.out⟩ ?_
              rintro w3 ⟨ht3, hn, hr3, hrn3, hit3⟩
              have HN := Lib.hid hn
              clear hn ht
              refine hK.out _ _ ht3 (fun ht => ?_)
              clear hK K ht3
              try simp only [Act.put, List.setIfInBounds_toArray, List.set_cons_zero, List.set_cons_succ]
              obtain ⟨gN, hgN⟩ : ∃ g, g = w8.heap.size := ⟨_, rfl⟩
              rw [← hgN] at HN ⊢
              clear hgN HDR HRD HID
              have HDR := Lib.hid hr3
              have HRD := Lib.hid hrn3
              have HID := Lib.hid hit3
              clear hr3 hrn3 hit3
              obtain ⟨gr2, flat, hgr2, hgt2, hgl2, hc2, hf2, hkr2, hown, hpush⟩ := HDR.out.push HID.out HRD.out (by simp [Value.oneCell']) rfl rfl
              obtain rfl : gr = gr2 := by injection hgr2 with e; injection e
              obtain ⟨i0, hi0, hz0, hz1, hz2⟩ := infoKey
              have hsz3 : w.heap.size + 1 ≤ w3.heap.size := HDR.out.box.lt
              refine wpAnyH_ready (rs := [15]) (by kernel_rfl) (by simp) ?_
              refine AllReadyH.cons (o := ⟨some _, _, _, _, _, _⟩) rfl (fun K hK => ?_) (AllReadyH.nil)
              refine step_append_lies _ rfl _ _ _ rfl (w.heap.size + 1) 55 i0 _ 10 152 Tryz.underlying45 hi0 hz0 hz1 hz2 rfl (by omega) (.slice Ak keys.length ck) keys.length flat rfl hown ⟨gN, 0, none⟩ 1 1 (#[.string ⟨nm.toArray⟩, .int .i64 z_1, .bool z_2, .bool z_3, .string ⟨z_4.toArray⟩, .int .i64 z_5, .string ⟨z_6.toArray⟩, .slice z_7 z_8 z_9, .slice z_a z_b z_c, .slice Az nz cz] : Array Value).toList rfl rfl (World.news_of_block HN.out) (by simp [Value.oneCell']) (by omega) (by unfold maxLen; omega) (by omega) hsz3 _ rfl ?_
              intro g6 cap6 w6 hown6 hgr6 hat6 hlt6
              have hro := row_on (RowX.le HDR.out.keys).2.2 hgr6 hat6
              obtain ⟨hf6, hc6, hsw6⟩ := hpush w6 g6 cap6 hown6 hgr6 hat6
              have HSW6 := Lib.hid hsw6
              have ht6 : (fun W9 => Blk W9 gm 68 #[.slice (some ⟨gr, 0, none⟩) N4 c4] ∧ Blk W9 gy 55 #[.string ⟨nm.toArray⟩, .int .i64 z_1, .bool z_2, .bool z_3, .string ⟨z_4.toArray⟩, .int .i64 z_5, .string ⟨z_6.toArray⟩, .slice z_7 z_8 z_9, .slice z_a z_b z_c, .slice Az nz cz]) w6 := ⟨hro.1.blk ht.1 (fun k => by have := (HDR.out.keyAt k).1; have := HDR.out.lt; omega), hro.1.blk ht.2 HKX.out.1⟩
              have hl6 : gr < w6.heap.size := World.block_lt_of_cell? _ _ hc6
              clear hown6 hgr6 hat6 hown hpush ht hro HDR HN HRD HID hsw6 hc2 hf2 hgl2 hgt2
              refine hK.out _ _ ht6 (fun ht => ?_)
              clear hK K ht6
              try simp only [Act.put, List.setIfInBounds_toArray, List.set_cons_zero, List.set_cons_succ]
              refine wpAnyH_take (i := 16) (oi := ⟨some _, _, _, _, _, _⟩) (v := (.pointer (some ⟨gr, acc.length * 4, none⟩))) rfl (by kernel_rfl) (by kernel_rfl) (by kernel_rfl) (fun _ _ _ h => h) (Or.inl ⟨by rfl, ?_⟩) ht ?_
              · intro W9 hSw
                go_simp
              try simp only [Act.put, List.setIfInBounds_toArray, List.set_cons_zero, List.set_cons_succ]
              refine wpAnyH_take (i := 17) (oi := ⟨some _, _, _, _, _, _⟩) (v := (.pointer (some ⟨gr, acc.length * 4 + 3, none⟩))) rfl (by kernel_rfl) (by kernel_rfl) (by kernel_rfl) (fun _ _ _ h => h) (Or.inl ⟨by rfl, ?_⟩) ht ?_
              · intro W9 hSw
                go_simp
              try simp only [Act.put, List.setIfInBounds_toArray, List.set_cons_zero, List.set_cons_succ]
              refine wpAnyH_ready (rs := [18]) (by kernel_rfl) (by simp) ?_
              refine AllReadyH.cons (o := ⟨none, _, _, _, _, _⟩) rfl (fun K hK => ?_) (AllReadyH.nil)
              go_simp
              refine via10 (K := K) (fun W9 => (fun W9 => Blk W9 gm 68 #[.slice (some ⟨gr, 0, none⟩) N4 c4] ∧ Blk W9 gy 55 #[.string ⟨nm.toArray⟩, .int .i64 z_1, .bool z_2, .bool z_3, .string ⟨z_4.toArray⟩, .int .i64 z_5, .string ⟨z_6.toArray⟩, .slice z_7 z_8 z_9, .slice z_a z_b z_c, .slice Az nz cz]) W9 ∧ SchW w gm Y A #[.int .i64 k, .bool b, .bool n.neg, .string ⟨n.digits.toArray⟩, .int .i64 n.exp, .string ⟨s.toArray⟩, .slice Al l.length e, .slice (some ⟨g, o, none⟩) m.length d] (some ⟨gr, 0, none⟩) c4 acc P (r2 ++ a) (some ⟨g6, 0, none⟩) cap6 (keys ++ [⟨nm, v, ks⟩]) W9) ⟨⟨(Below.heap_setCell _ ⟨gr, acc.length * 4 + 3, none⟩ _ gm hggm).trans ht.1, (Below.heap_setCell _ ⟨gr, acc.length * 4 + 3, none⟩ _ gy hgyr).trans ht.2⟩, HSW6.out⟩ ?_
              rintro w7 ⟨ht7, hr7⟩
              have HFI := Lib.hid hr7
              clear hr7 HSW6 hf6 hc6 hl6
              refine hK.out _ _ ht7 (fun ht => ?_)
              clear hK K ht7
              try simp only [Act.put, List.setIfInBounds_toArray, List.set_cons_zero, List.set_cons_succ]
              refine wpAnyH_done (by kernel_rfl) ?_ _
              clear ht
              go_wp2_with fail
              go_roundw
              case rel => exact ⟨i + 1, _, c4, r2 ++ a, _, cap6, _, by go_num, by omega, HKL2.out, HFI.out, HMN.out⟩
              case measure => simp [intOf]; omega
            · go_simp
              refine via10 (K := K) (fun W9 => (fun W9 => Blk W9 gm 68 #[.slice (some ⟨gr, 0, none⟩) N4 c4] ∧ Blk W9 gy 55 #[.string ⟨nm.toArray⟩, .int .i64 z_1, .bool z_2, .bool z_3, .string ⟨z_4.toArray⟩, .int .i64 z_5, .string ⟨z_6.toArray⟩, .slice z_7 z_8 z_9, .slice z_a z_b z_c, .slice Az nz cz]) W9 ∧ Blk W9 w8.heap.size 55 #[.string ⟨nm.toArray⟩, .int .i64 z_1, .bool z_2, .bool z_3, .string ⟨z_4.toArray⟩, .int .i64 z_5, .string ⟨z_6.toArray⟩, .slice z_7 z_8 z_9, .slice z_a z_b z_c, .slice Az nz cz] ∧ SchW w gm Y A #[.int .i64 k, .bool b, .bool n.neg, .string ⟨n.digits.toArray⟩, .int .i64 n.exp, .string ⟨s.toArray⟩, .slice Al l.length e, .slice (some ⟨g, o, none⟩) m.length d] (some ⟨gr, 0, none⟩) c4 acc P (r2 ++ a) Ak ck keys W9 ∧ (∀ b, Rn b → b < W9.heap.size ∧ ¬ LX gm (some ⟨gr, 0, none⟩) b ∧ ¬ (Y b ∨ Bk Ak b)) ∧ ItKey (W9.on Rn) ⟨nm, v, ks⟩ [.string ⟨nm.toArray⟩, .int .i64 z_1, .bool z_2, .bool z_3, .string ⟨z_4.toArray⟩, .int .i64 z_5, .string ⟨z_6.toArray⟩, .slice z_7 z_8 z_9, .slice z_a z_b z_c, .slice Az nz cz]) ⟨⟨ht.1.alloc _, ht.2.alloc _⟩, Blk.new w8 _ _, HDR.out.next ((Below.refl _ _).alloc (Nat.le_refl _) _), fun b h => ⟨Nat.lt_of_lt_of_le (HRD.out b h).1 (by simp), (HRD.out b h).2⟩, ItKey.mono (on_keep (fun b h _ => h) (fun b h _ => ((Below.refl w8.heap.size w8).alloc (Nat.le_refl _) _).block b (HRD.out b h).1)) HID.out⟩ ?_
              rintro w3 ⟨ht3, hn, hr3, hrn3, hit3⟩
              have HN := Lib.hid hn
              clear hn ht
              refine hK.out _ _ ht3 (fun ht => ?_)
              clear hK K ht3
              try simp only [Act.put, List.setIfInBounds_toArray, List.set_cons_zero, List.set_cons_succ]
              obtain ⟨gN, hgN⟩ : ∃ g, g = w8.heap.size := ⟨_, rfl⟩
              rw [← hgN] at HN ⊢
              clear hgN HDR HRD HID
              have HDR := Lib.hid hr3
              have HRD := Lib.hid hrn3
              have HID := Lib.hid hit3
              clear hr3 hrn3 hit3
              refine wpAnyH_ready (rs := [12]) (by kernel_rfl) (by simp) ?_
              refine AllReadyH.cons (o := ⟨some _, _, _, _, _, _⟩) rfl (fun K hK => ?_) (AllReadyH.nil)
              obtain ⟨gr2, hgr2, hcl, _⟩ := HDR.out.maker.setC (x' := .wait (text P) false false Ak 0 0) (wait_at acc _ _) (j := 3) (u := .slice Ak 0 0) (by omega) (fun c => rfl) rfl
              obtain rfl : gr = gr2 := by injection hgr2 with e; injection e
              have c3 := hcl 3 _ rfl
              go_simp
              refine hK.out _ _ ht (fun ht => ?_)
              clear hK K c3 hcl hgr2
              try simp only [Act.put, List.setIfInBounds_toArray, List.set_cons_zero, List.set_cons_succ]
              obtain ⟨gr2, flat, hgr2, hgt2, hgl2, hc2, hf2, hkr2, hown, hpush⟩ := HDR.out.push HID.out HRD.out (by simp [Value.oneCell']) rfl rfl
              obtain rfl : gr = gr2 := by injection hgr2 with e; injection e
              obtain ⟨i0, hi0, hz0, hz1, hz2⟩ := infoKey
              have hsz3 : w.heap.size + 1 ≤ w3.heap.size := HDR.out.box.lt
              refine wpAnyH_ready (rs := [15]) (by kernel_rfl) (by simp) ?_
              refine AllReadyH.cons (o := ⟨some _, _, _, _, _, _⟩) rfl (fun K hK => ?_) (AllReadyH.nil)
              refine step_append_lies _ rfl _ _ _ rfl (w.heap.size + 1) 55 i0 _ 10 152 Tryz.underlying45 hi0 hz0 hz1 hz2 rfl (by omega) (.slice Ak keys.length ck) keys.length flat rfl hown ⟨gN, 0, none⟩ 1 1 (#[.string ⟨nm.toArray⟩, .int .i64 z_1, .bool z_2, .bool z_3, .string ⟨z_4.toArray⟩, .int .i64 z_5, .string ⟨z_6.toArray⟩, .slice z_7 z_8 z_9, .slice z_a z_b z_c, .slice Az nz cz] : Array Value).toList rfl rfl (World.news_of_block HN.out) (by simp [Value.oneCell']) (by omega) (by unfold maxLen; omega) (by omega) hsz3 _ rfl ?_
              intro g6 cap6 w6 hown6 hgr6 hat6 hlt6
              have hro := row_on (RowX.le HDR.out.keys).2.2 hgr6 hat6
              obtain ⟨hf6, hc6, hsw6⟩ := hpush w6 g6 cap6 hown6 hgr6 hat6
              have HSW6 := Lib.hid hsw6
              have ht6 : (fun W9 => Blk W9 gm 68 #[.slice (some ⟨gr, 0, none⟩) N4 c4] ∧ Blk W9 gy 55 #[.string ⟨nm.toArray⟩, .int .i64 z_1, .bool z_2, .bool z_3, .string ⟨z_4.toArray⟩, .int .i64 z_5, .string ⟨z_6.toArray⟩, .slice z_7 z_8 z_9, .slice z_a z_b z_c, .slice Az nz cz]) w6 := ⟨hro.1.blk ht.1 (fun k => by have := (HDR.out.keyAt k).1; have := HDR.out.lt; omega), hro.1.blk ht.2 HKX.out.1⟩
              have hl6 : gr < w6.heap.size := World.block_lt_of_cell? _ _ hc6
              clear hown6 hgr6 hat6 hown hpush ht hro HDR HN HRD HID hsw6 hc2 hf2 hgl2 hgt2
              refine hK.out _ _ ht6 (fun ht => ?_)
              clear hK K ht6
              try simp only [Act.put, List.setIfInBounds_toArray, List.set_cons_zero, List.set_cons_succ]
              refine wpAnyH_take (i := 16) (oi := ⟨some _, _, _, _, _, _⟩) (v := (.pointer (some ⟨gr, acc.length * 4, none⟩))) rfl (by kernel_rfl) (by kernel_rfl) (by kernel_rfl) (fun _ _ _ h => h) (Or.inl ⟨by rfl, ?_⟩) ht ?_
              · intro W9 hSw
                go_simp
              try simp only [Act.put, List.setIfInBounds_toArray, List.set_cons_zero, List.set_cons_succ]
              refine wpAnyH_take (i := 17) (oi := ⟨some _, _, _, _, _, _⟩) (v := (.pointer (some ⟨gr, acc.length * 4 + 3, none⟩))) rfl (by kernel_rfl) (by kernel_rfl) (by kernel_rfl) (fun _ _ _ h => h) (Or.inl ⟨by rfl, ?_⟩) ht ?_
              · intro W9 hSw
                go_simp
              try simp only [Act.put, List.setIfInBounds_toArray, List.set_cons_zero, List.set_cons_succ]
              refine wpAnyH_ready (rs := [18]) (by kernel_rfl) (by simp) ?_
              refine AllReadyH.cons (o := ⟨none, _, _, _, _, _⟩) rfl (fun K hK => ?_) (AllReadyH.nil)
              go_simp
              refine via10 (K := K) (fun W9 => (fun W9 => Blk W9 gm 68 #[.slice (some ⟨gr, 0, none⟩) N4 c4] ∧ Blk W9 gy 55 #[.string ⟨nm.toArray⟩, .int .i64 z_1, .bool z_2, .bool z_3, .string ⟨z_4.toArray⟩, .int .i64 z_5, .string ⟨z_6.toArray⟩, .slice z_7 z_8 z_9, .slice z_a z_b z_c, .slice Az nz cz]) W9 ∧ SchW w gm Y A #[.int .i64 k, .bool b, .bool n.neg, .string ⟨n.digits.toArray⟩, .int .i64 n.exp, .string ⟨s.toArray⟩, .slice Al l.length e, .slice (some ⟨g, o, none⟩) m.length d] (some ⟨gr, 0, none⟩) c4 acc P (r2 ++ a) (some ⟨g6, 0, none⟩) cap6 (keys ++ [⟨nm, v, ks⟩]) W9) ⟨⟨(Below.heap_setCell _ ⟨gr, acc.length * 4 + 3, none⟩ _ gm hggm).trans ht.1, (Below.heap_setCell _ ⟨gr, acc.length * 4 + 3, none⟩ _ gy hgyr).trans ht.2⟩, HSW6.out⟩ ?_
              rintro w7 ⟨ht7, hr7⟩
              have HFI := Lib.hid hr7
              clear hr7 HSW6 hf6 hc6 hl6
              refine hK.out _ _ ht7 (fun ht => ?_)
              clear hK K ht7
              try simp only [Act.put, List.setIfInBounds_toArray, List.set_cons_zero, List.set_cons_succ]
              refine wpAnyH_done (by kernel_rfl) ?_ _
              clear ht
              go_wp2_with fail
              go_roundw
              case rel => exact ⟨i + 1, _, c4, r2 ++ a, _, cap6, _, by go_num, by omega, HKL2.out, HFI.out, HMN.out⟩
              case measure => simp [intOf]; omega
          · have HBAD := Lib.hid (HNB.out c qq (HNX.out.2 c qq hra))
            have hal := (Below.refl w9.heap.size w9).alloc (Nat.le_refl _) (.cells zeroKey 55)
            have HTP := Lib.hid (TellP.fail (Y := Y) (acc := acc) HWa.out.but HWa.out.on (hbt.trans (But.of hal) (fun _ _ k => k)) HBAD.out hc0 hbl ⟨le_below hal _ _ hsp.1, le_below hal _ _ hsp.2⟩)
            unfold spellV
            clear hbt hra hc0 hbl hsp HWa HQ HCALL q0 q1 q2 q3 q4 q5 q6 q7 q8 hql HNX HSO HN2
            go_wp2_with fail
            go_ret
            exact HTP.out
        · obtain rfl : i = m.length := by omega
          have HOK := Lib.hid (HND.out keys r2 (by have := HMD.out; rwa [List.take_length] at this))
          go_wp2_with fail
          go_ret
          refine ⟨HW.out.but, .inl ⟨_, A2, c2, HOK.out, rfl, ?_, HW.out.on⟩⟩
          rw [decide_eq_false hk, HBF.out]
          exact HW.out.fin

theorem tell_any (f : Nat) : TellC f := by
  induction f with
  | zero =>
    intro v hv
    obtain ⟨k, b, n, s, l, m⟩ := v
    simp only [Vl.size] at hv
    omega
  | succ f ih => exact tell_step f (key_step f ih)

theorem Tk.new (w : World) : Tk w.heap.size (fun _ => False) none 0 [] (w.alloc (.cells #[.slice none 0 0] 68)) where
  blk := Blk.new w _ _
  row := RowX.nil _ _
  few := Nat.zero_le _
  apart := fun b k _ => by obtain ⟨ad, e, _⟩ := k; cases e
  ng := fun k => k
  yl := fun b k => k.elim
theorem Tk.slN {gm : Nat} {Y : Nat → Prop} {A : Option Addr} {cp : Nat} {a : List Cm.Node} {w : World} (h : Tk gm Y A cp (a.map .ok) w) : SlN w.cell? A a := fun i N hi => by
  obtain ⟨R, g, cs, hA, _, _, h1, h2⟩ := RowX.items (It := ItW) h.row (i := i) (a := .ok N) (by rw [List.getElem?_map, hi]; rfl)
  exact ⟨g, 0, cs, hA, ItN.mono (on_all _ _) h1, fun j u hu => by rw [Nat.zero_add]; exact h2 j u hu⟩
theorem LX.none {gm b : Nat} (h : b < gm) : ¬ LX gm none b := fun k => by
  rcases k with k | ⟨ad, e, _⟩
  · omega
  · cases e

set_option linter.unusedVariables false in
set_option linter.unusedSimpArgs false in
set_option maxRecDepth 100000 in
set_option maxHeartbeats 4000000 in
theorem compile_any : CompileT G11 := by
  intro v x w hG hwd hx
  have HX := Lib.hid hx
  obtain ⟨k, b, n, s, l, m⟩ := v
  obtain ⟨Al, e, B, d, rfl, q1, q2, q3, q4, q5, q6⟩ := In.form hx
  have HG := Lib.hid hG
  have HWD := Lib.hid hwd
  have HB0 := Lib.hid ((Below.refl w.heap.size w).alloc (Nat.le_refl _) (.cells #[.int .i64 k, .bool b, .bool n.neg, .string ⟨n.digits.toArray⟩, .int .i64 n.exp, .string ⟨s.toArray⟩, .slice Al l.length e, .slice B m.length d] 28))
  have HBOX := Lib.hid (Blk.new w 28 #[.int .i64 k, .bool b, .bool n.neg, .string ⟨n.digits.toArray⟩, .int .i64 n.exp, .string ⟨s.toArray⟩, .slice Al l.length e, .slice B m.length d])
  clear hG hwd hx q1 q2 q3 q4 q5 q6
  go_enter Tryz.func7, Tryz.ntmps7
  go_upto_region 1 with (fail)
  generalize w.alloc (.cells #[.int .i64 k, .bool b, .bool n.neg, .string ⟨n.digits.toArray⟩, .int .i64 n.exp, .string ⟨s.toArray⟩, .slice Al l.length e, .slice B m.length d] 28) = w0 at *
  obtain ⟨f0, f1, f2, f3, f4, f5, f6, f7⟩ := HBOX.out.eight
  have hbl := HBOX.out.lt
  by_cases hsch : k = 1 ∨ k = 5
  · have HC := Lib.hid (show Cm.compile (.mk k b n s l m) = Cm.node (Vl.mk k b n s l m).size 0 [] (.mk k b n s l m) from if_pos (Sh.isSch_iff.2 hsch))
    have HB1 := Lib.hid (HB0.out.alloc HB0.out.size (.cells #[.slice none 0 0] 68))
    have HBOX1 := Lib.hid (HBOX.out.alloc (.cells #[.slice none 0 0] 68))
    have HT := Lib.hid (Tk.new w0)
    have hgm : w.heap.size ≤ w0.heap.size := HB0.out.size
    have hpick : ((k != 1) && (k != 5)) = false := by
      rcases hsch with h | h
      · subst h; rfl
      · subst h; rfl
    rcases hsch with h | h
    · subst h
      go_upto_region 4 with (fail)
      clear f0 f1 f2 f3 f4 f5 f6 f7 hbl HBOX
      generalize w0.alloc (.cells #[.slice none 0 0] 68) = w1 at *
      generalize w0.heap.size = gm at *
      have HCALL := Lib.hid (tell_any _ _ (Nat.le_refl (Vl.mk 1 b n s l m).size) HWD.out gm (fun _ => False) none 0 [] [] w1 (.agg #[.int .i64 1, .bool b, .bool n.neg, .string ⟨n.digits.toArray⟩, .int .i64 n.exp, .string ⟨s.toArray⟩, .slice Al l.length e, .slice B m.length d]) (fun b => b < w.heap.size) ⟨w, HG.out, hgm, HB1.out⟩ HT.out (fun b hb => ⟨Nat.lt_of_lt_of_le hb HB1.out.size, LX.none (Nat.lt_of_lt_of_le hb hgm), fun k => k⟩) (In.keep (fun p u hp => on_some.2 ⟨World.block_lt_of_cell? _ _ hp, le_below HB1.out _ _ hp⟩) _ _ HX.out) (by have := HWD.out.2.1; show 0 + _ ≤ _; omega))
      rw [show (text []).toArray = #[] from rfl, show ([] : List Cm.Wn).length = 0 from rfl, ← HC.out] at HCALL
      obtain ⟨f0, f1, f2, f3, f4, f5, f6, f7⟩ := HBOX1.out.eight
      have hbl := HBOX1.out.lt
      go_wp2_with fail
      refine HCALL.out.mono ?_
      rintro e8 w9 ⟨hbt, ⟨a, A4, c4, hra, rfl, hmk, hron⟩ | ⟨c, qq, bb, hra, hc0, rfl, hbl9, hsp⟩⟩
      · rw [List.nil_append] at hmk
        have HB9 := Lib.hid (HB1.out.trans (hbt.below HB1.out.size (fun b hb => LX.none (Nat.lt_of_lt_of_le hb hgm))))
        have HSN := Lib.hid hmk.slN
        have HLE := Lib.hid (RowX.le hmk.row)
        have t0 := hmk.blk.one
        have tl := hmk.blk.lt
        have HRA := Lib.hid hra
        clear hbt hmk hron hra f0 f1 f2 f3 f4 f5 f6 f7 hbl HCALL
        rw [List.length_map] at t0 HLE
        go_wp2_with fail
        go_ret2
        rw [HRA.out]
        exact ⟨A4, c4, .nilIface, rfl, HSN.out, HLE.out.1, HLE.out.2.1, .inl ⟨rfl, rfl, rfl⟩, fun _ => ⟨a, rfl⟩, HB9.out⟩
      · have HB9 := Lib.hid (HB1.out.trans (hbt.below HB1.out.size (fun b hb => LX.none (Nat.lt_of_lt_of_le hb hgm))))
        have HRA := Lib.hid hra
        have HSP := Lib.hid hsp
        unfold spellV
        clear hbt hra f0 f1 f2 f3 f4 f5 f6 f7 hbl HCALL hsp
        go_wp2_with fail
        go_ret2
        rw [HRA.out]
        exact ⟨none, 0, spellV bb, rfl, (fun i N h => by simp [Cm.outL] at h), Nat.le_refl _, by unfold maxLen; omega, .inr ⟨hc0, bb, rfl, HSP.out⟩, (fun h => by cases h), HB9.out⟩
    · subst h
      go_upto_region 4 with (fail)
      clear f0 f1 f2 f3 f4 f5 f6 f7 hbl HBOX
      generalize w0.alloc (.cells #[.slice none 0 0] 68) = w1 at *
      generalize w0.heap.size = gm at *
      have HCALL := Lib.hid (tell_any _ _ (Nat.le_refl (Vl.mk 5 b n s l m).size) HWD.out gm (fun _ => False) none 0 [] [] w1 (.agg #[.int .i64 5, .bool b, .bool n.neg, .string ⟨n.digits.toArray⟩, .int .i64 n.exp, .string ⟨s.toArray⟩, .slice Al l.length e, .slice B m.length d]) (fun b => b < w.heap.size) ⟨w, HG.out, hgm, HB1.out⟩ HT.out (fun b hb => ⟨Nat.lt_of_lt_of_le hb HB1.out.size, LX.none (Nat.lt_of_lt_of_le hb hgm), fun k => k⟩) (In.keep (fun p u hp => on_some.2 ⟨World.block_lt_of_cell? _ _ hp, le_below HB1.out _ _ hp⟩) _ _ HX.out) (by have := HWD.out.2.1; show 0 + _ ≤ _; omega))
      rw [show (text []).toArray = #[] from rfl, show ([] : List Cm.Wn).length = 0 from rfl, ← HC.out] at HCALL
      obtain ⟨f0, f1, f2, f3, f4, f5, f6, f7⟩ := HBOX1.out.eight
      have hbl := HBOX1.out.lt
      go_wp2_with fail
      refine HCALL.out.mono ?_
      rintro e8 w9 ⟨hbt, ⟨a, A4, c4, hra, rfl, hmk, hron⟩ | ⟨c, qq, bb, hra, hc0, rfl, hbl9, hsp⟩⟩
      · rw [List.nil_append] at hmk
        have HB9 := Lib.hid (HB1.out.trans (hbt.below HB1.out.size (fun b hb => LX.none (Nat.lt_of_lt_of_le hb hgm))))
        have HSN := Lib.hid hmk.slN
        have HLE := Lib.hid (RowX.le hmk.row)
        have t0 := hmk.blk.one
        have tl := hmk.blk.lt
        have HRA := Lib.hid hra
        clear hbt hmk hron hra f0 f1 f2 f3 f4 f5 f6 f7 hbl HCALL
        rw [List.length_map] at t0 HLE
        go_wp2_with fail
        go_ret2
        rw [HRA.out]
        exact ⟨A4, c4, .nilIface, rfl, HSN.out, HLE.out.1, HLE.out.2.1, .inl ⟨rfl, rfl, rfl⟩, fun _ => ⟨a, rfl⟩, HB9.out⟩
      · have HB9 := Lib.hid (HB1.out.trans (hbt.below HB1.out.size (fun b hb => LX.none (Nat.lt_of_lt_of_le hb hgm))))
        have HRA := Lib.hid hra
        have HSP := Lib.hid hsp
        unfold spellV
        clear hbt hra f0 f1 f2 f3 f4 f5 f6 f7 hbl HCALL hsp
        go_wp2_with fail
        go_ret2
        rw [HRA.out]
        exact ⟨none, 0, spellV bb, rfl, (fun i N h => by simp [Cm.outL] at h), Nat.le_refl _, by unfold maxLen; omega, .inr ⟨hc0, bb, rfl, HSP.out⟩, (fun h => by cases h), HB9.out⟩
  · have hn1 : (k != 1) = true := by rw [bne_iff_ne]; exact fun h => hsch (.inl h)
    have hn5 : (k != 5) = true := by rw [bne_iff_ne]; exact fun h => hsch (.inr h)
    have HC := Lib.hid (show Cm.compile (.mk k b n s l m) = .bad 14 [] from if_neg (fun h => hsch (Sh.isSch_iff.1 h)))
    have HSP := Lib.hid (show SpellAt (w0.alloc (.cells #[.string ⟨#[]⟩, .int .i64 14] 66)) w0.heap.size (text []) 14 from ⟨(Blk.new w0 66 #[.string ⟨#[]⟩, .int .i64 14]).cell 0, (Blk.new w0 66 #[.string ⟨#[]⟩, .int .i64 14]).cell 1⟩)
    go_wp2_with fail
    go_ret2
    rw [HC.out]
    exact ⟨none, 0, spellV w0.heap.size, rfl, (fun i N h => by simp [Cm.outL] at h), Nat.le_refl _, by unfold maxLen; omega, .inr ⟨by decide, w0.heap.size, rfl, HSP.out⟩, (fun h => by cases h), HB0.out.alloc HB0.out.size _⟩

end Go.Proofs.YtlhinefalkfjaaaGreatDoor

