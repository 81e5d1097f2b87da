/- The walks of the program's linkAll and Link (layer 12). -/
import Derived.Test.YticpgjhckjhfeaaDoorEi
import Derived.Test.YticpgjhckjhfeaaDoorEj
namespace Go.Proofs.YticpgjhckjhfeaaDoor
open Go.RowKit Js Pt

/-- What linkAll tells. -/
def LinkAP (l : List Cm.Node) (w : World) (e : Ending) (w' : World) : Prop :=
  Below w.heap.size w w' ∧ ((∃ (os : List Cm.Node) (A' : Option Addr) (c' : Nat), Cm.linkNodes l l = .ok os ∧ os.length = l.length ∧ e = .returned (.tuple #[.slice A' l.length c', .nilIface]) ∧ SlN w'.cell? A' os ∧ l.length ≤ c' ∧ c' ≤ maxLen) ∨
    (∃ (p : Cm.Names) (b : Nat), Cm.linkNodes l l = .bad 12 p ∧ e = .returned (.tuple #[.slice none 0 0, spellV b]) ∧ SpellAt w' b (text p) 12))
theorem staysMax : Stays MaxT := fun _ _ h hb => h.on hb

set_option linter.unusedVariables false in
set_option linter.unusedSimpArgs false in
set_option maxRecDepth 100000 in
set_option maxHeartbeats 4000000 in
theorem linkAll_any (l : List Cm.Node) (A : Option Addr) (cA : Nat) (w : World) (hT : MaxT w) (hs : SlN w.cell? A l) (h1 : l.length ≤ cA) (h2 : cA ≤ maxLen) (hgd : Cm.Good12 l) :
    Calls Tryd.prog 16 #[.slice A l.length cA] w (LinkAP l w) := by
  have hlen : l.length ≤ 200 := hgd.few
  have HPL := Lib.hid (placesOf_any l A cA w hs h1 h2 (by omega) hgd.paths)
  have HCL := Lib.hid (fun (W : World) (hW : Below w.heap.size w W) => cloneN_any l (fun b => b < W.heap.size) (fun _ => False) A cA W (fun i N hi => by
    obtain ⟨g, o, cs, q1, q2, q3⟩ := (hs.keep (c' := W.on fun b => b < W.heap.size) (fun p u hp => on_some.2 ⟨Nat.lt_of_lt_of_le (World.block_lt_of_cell? _ _ hp) hW.size, le_below hW _ _ hp⟩)) i N hi
    exact ⟨g, o, cs, q1, q2, q3⟩) h1 h2 (by omega) (fun b h => h) (fun b _ k => k))
  have HGD := Lib.hid hgd
  have HMT := Lib.hid hT
  clear hs hgd hT h2
  go_enter Tryd.func16, Tryd.ntmps16
  go_wp2_with fail
  refine HPL.out.mono ?_
  rintro e1 w1 ⟨mb, rfl, hM, hmw, hb1⟩
  have HB1 := Lib.hid hb1
  have HM1 := Lib.hid hM
  have HMW := Lib.hid hmw
  clear hb1 hM hmw HPL
  go_wp2_with fail
  refine (HCL.out w1 HB1.out).mono ?_
  rintro e2 w2 ⟨A1, c1, rfl, hrow, hb2⟩
  have HROW := Lib.hid hrow
  have HB2 := Lib.hid (HB1.out.trans (hb2.mono HB1.out.size))
  have HM2 := Lib.hid (HM1.out.far (hb2.block _ HM1.out.lt))
  have HMB := Lib.hid HM1.out.lt
  obtain ⟨hc1, hc2, _⟩ := hrow.le
  have HC2 := Lib.hid hc2
  unfold maxLen at hc2
  obtain ⟨B, hB⟩ : ∃ B, w1.heap.size = B := ⟨_, rfl⟩
  rw [hB] at HROW HMB
  have HBW := Lib.hid (show w.heap.size ≤ B by rw [← hB]; exact HB1.out.size)
  clear hrow hb2 HCL HM1 HB1 hB
  go_wp2_with fail
  go_loopw [16] (fun i wr => ∃ (j : Nat) (os : List Cm.Node), j ≤ l.length ∧ i = .int .i64 j ∧ os.length = j ∧ Below w.heap.size w wr ∧ RowX ItN 45 4 (fun _ => False) wr B A1 c1 (os ++ l.drop j) ∧ PlcAt wr mb l.length (fun k => Cm.refAt l (35 :: k) l.length) ∧ Cm.linkNodes l (l.take j) = .ok os) (fun i _ => l.length - (intOf i).toNat)
  case atStart => exact ⟨0, [], by omega, rfl, rfl, HB2.out, HROW.out, HM2.out, rfl⟩
  case round =>
    obtain ⟨j, os, hj, rfl, hos, hb, hrow, hM, hlk⟩ := hrel
    have HB := Lib.hid hb
    have HRW := Lib.hid hrow
    have HLK := Lib.hid hlk
    have HOS := Lib.hid hos
    have HM := Lib.hid hM
    clear hb hrow hlk hos hM HROW HB2 HM2
    by_cases hlt : j < l.length
    · obtain ⟨Rr, g, cs, rfl, hBg, hgl, hRr, hit, hcs, hfz, hset⟩ := RowX.setI (It := ItN) (fun h => ItN.mono h) (fun c a cs h => ItN.len h) HRW.out (mix_at HOS.out hlt)
      have HMS := Lib.hid (mix_set HOS.out hlt)
      have HNX := Lib.hid (Cm.linkNodes_next hlt HLK.out)
      have hmem := List.getElem_mem hlt
      have hkl := HGD.out.keys _ hmem
      have hpl := HGD.out.paths _ hmem
      have HST := Lib.hid (HGD.out.strs _ hmem)
      have hjj : (j : Int) < (l.length : Int) := by omega
      clear hmem
      generalize l[j]'hlt = N at *
      obtain ⟨P, nall, npass, keys⟩ := N
      obtain ⟨A2, c2, rfl, hk2, hl2, hm2⟩ := hit
      have d0 : wr.cell? ⟨g, j * 4, none⟩ = _ := hcs 0 _ rfl
      have d1 : wr.cell? ⟨g, j * 4 + 1, none⟩ = _ := hcs 1 _ rfl
      have d2 : wr.cell? ⟨g, j * 4 + 2, none⟩ = _ := hcs 2 _ rfl
      have d3 : wr.cell? ⟨g, j * 4 + 3, none⟩ = _ := hcs 3 _ rfl
      have HSET := Lib.hid hset
      have HRR := Lib.hid hRr
      have HBG := Lib.hid hBg
      have HFZ := Lib.hid (hfz 3)
      have HGL := Lib.hid hgl
      simp only at hl2 d0 d1 d2 d3 hkl hpl HST HNX HMS HSET
      have hb1 := (Below.refl wr.heap.size wr).alloc (Nat.le_refl _) (.cells #[.string ⟨(text P).toArray⟩, .bool nall, .bool npass, .slice A2 keys.length c2] 45)
      have HB1 := Lib.hid hb1
      have HBX := Lib.hid (Blk.new wr 45 #[.string ⟨(text P).toArray⟩, .bool nall, .bool npass, .slice A2 keys.length c2])
      have HKK := Lib.hid (linkKeys_any l P keys Rr A2 c2 mb l.length (wr.alloc (.cells #[.string ⟨(text P).toArray⟩, .bool nall, .bool npass, .slice A2 keys.length c2] 45)) (fun i K hi => by
        obtain ⟨g, o, cs, q1, q2, q3⟩ := (hk2.keep (on_keep (S' := Rr) (fun b h _ => h) (fun b h h2 => hb1.block b h2))) i K hi
        exact ⟨g, o, cs, q1, q2, q3⟩) hl2 hm2 hkl (fun b h => Nat.lt_of_lt_of_le (hRr b h).1 hb1.size) (HM.out.far (hb1.block _ HM.out.lt)) HST.out)
      clear hb1 hcs hset hRr hBg hfz hk2
      unfold maxLen at hm2
      go_upto_region 6 with (fail)
      obtain ⟨gb, hgb⟩ : ∃ gb, wr.heap.size = gb := ⟨_, rfl⟩
      have HGB := Lib.hid hgb
      have HWB := Lib.hid (show gb + 1 = (wr.alloc (.cells #[.string ⟨(text P).toArray⟩, .bool nall, .bool npass, .slice A2 keys.length c2] 45)).heap.size by simp [hgb])
      generalize wr.alloc (.cells #[.string ⟨(text P).toArray⟩, .bool nall, .bool npass, .slice A2 keys.length c2] 45) = wb at *
      have HBX2 := Lib.hid (show Blk wb gb 45 #[.string ⟨(text P).toArray⟩, .bool nall, .bool npass, .slice A2 keys.length c2] by rw [← hgb]; exact HBX.out)
      rw [hgb]
      clear d0 d1 d2 hgl hgb HBX
      have b3 := HBX2.out.cell 3
      have hbl := HBX2.out.lt
      go_wp2_with fail
      refine HKK.out.mono ?_
      rintro e3 w3 ⟨hb3, ⟨ks, A', c', Rn, hlk, hlen2, rfl, hsk, hle1, hle2, hRn⟩ | ⟨hbad, rfl⟩⟩
      · have HW3 := Lib.hid (show Below wr.heap.size wr w3 from HB1.out.trans (hb3.mono HB1.out.size))
        have HROW3 := Lib.hid (HSET.out w3 3 (.slice A' keys.length c') ⟨P, nall, npass, ks⟩ Rn HW3.out (by omega) rfl ⟨A', c', by rw [show (Cm.Node.mk P nall npass ks).keys.length = keys.length from hlen2]; rfl, fun i K hi => by
            obtain ⟨g, o, cs, q1, q2, q3⟩ := hsk i K hi
            exact ⟨g, o, cs, q1, q2, q3⟩, by rw [show (Cm.Node.mk P nall npass ks).keys.length = keys.length from hlen2]; exact hle1, hle2⟩ (fun b hb => by
            obtain ⟨h8, h9⟩ := hRn b hb
            refine ⟨h8, id, ?_⟩
            rcases h9 with h9 | h9
            · exact (HRR.out b h9).2.2
            · have h10 := HGL.out; have h11 := HWB.out; have h12 := HGB.out; omega))
        rw [HMS.out] at HROW3
        have HLX := Lib.hid (HNX.out.1 ks hlk)
        have hfz3 : w3.frozen? ⟨g, j * 4 + 3, none⟩ = false := by
          rw [World.frozen?_of_block (w := wr) (HW3.out.block g HGL.out)]; exact HFZ.out
        have d3' := (le_below HW3.out) _ _ d3
        have hgl3 : g < w3.heap.size := Nat.lt_of_lt_of_le HGL.out HW3.out.size
        have HB3 := Lib.hid ((HB.out.trans (HW3.out.mono HB.out.size)).setCell (p := ⟨g, j * 4 + 3, none⟩) (by show w.heap.size ≤ g; have := HBG.out; have := HBW.out; omega) (.slice A' keys.length c'))
        have HM3 := Lib.hid ((HM.out.far (HW3.out.block _ HM.out.lt)).far (w' := w3.setCell ⟨g, j * 4 + 3, none⟩ (.slice A' keys.length c')) (Below.heap_setCell w3 ⟨g, j * 4 + 3, none⟩ _ mb (by show mb ≠ g; have := HMB.out; have := HBG.out; omega)))
        clear hb3 hlk hsk hle1 hle2 hRn d3 b3 hbl HKK
        go_wp2_with fail
        go_roundw
        case rel => exact ⟨j + 1, os ++ [⟨P, nall, npass, ks⟩], by omega, by go_num, by rw [List.length_append, HOS.out]; rfl, HB3.out, HROW3.out, HM3.out, HLX.out⟩
        case measure => simp [intOf]; omega
      · have HBD := Lib.hid (HNX.out.2 _ _ hbad)
        have HW3 := Lib.hid (show Below w.heap.size w w3 from HB.out.trans ((HB1.out.trans (hb3.mono HB1.out.size)).mono HB.out.size))
        have HBX3 := Lib.hid (HBX2.out.on hb3)
        clear hb3 hbad b3 hbl d3 HKK
        go_upto_region 8 with (fail)
        refine wp_region_held_drew (S := fun W9 => Blk W9 gb 45 #[.string ⟨(text P).toArray⟩, .bool nall, .bool npass, .slice A2 keys.length c2]) (by kernel_rfl) HBX3.out (fun ht => ?_)
        have HD := Lib.hid (show Below w.heap.size w w3.drew from HW3.out.trans ((Below.refl _ _).drew.mono HW3.out.size))
        generalize w3.drew = wd at *
        refine wpAnyH_take (i := 0) (oi := ⟨some _, _, _, _, _, _⟩) (v := (.pointer (some ⟨gb, 0, none⟩))) rfl (by kernel_rfl) (by kernel_rfl) (by kernel_rfl) (fun _ _ _ h => h) (Or.inl ⟨by rfl, ?_⟩) ht ?_
        · intro W9 hSw
          go_simp
        try simp only [Act.put, List.setIfInBounds_toArray, List.set_cons_zero, List.set_cons_succ]
        refine wpAnyH_take (i := 1) (oi := ⟨some _, _, _, _, _, _⟩) (v := (.string ⟨(text P).toArray⟩)) rfl (by kernel_rfl) (by kernel_rfl) (by kernel_rfl) (fun _ _ _ h => h) (Or.inl ⟨by rfl, ?_⟩) ht ?_
        · intro W9 hSw
          have b0 := hSw.cell 0
          have bl := hSw.lt
          go_simp
        try simp only [Act.put, List.setIfInBounds_toArray, List.set_cons_zero, List.set_cons_succ]
        refine wpAnyH_ready (rs := [2]) (by kernel_rfl) (by simp) ?_
        refine AllReadyH.cons (o := ⟨some _, _, _, _, _, _⟩) rfl (fun K hK => ?_) AllReadyH.nil
        go_simp
        refine via10 (K := K) (fun W9 => Blk W9 gb 45 #[.string ⟨(text P).toArray⟩, .bool nall, .bool npass, .slice A2 keys.length c2] ∧ Strs W9.cell? (some ⟨wd.heap.size, 0, none⟩) [[36, 114, 101, 102]] ∧ Below w.heap.size w W9) ⟨Blk.alloc ht _, strs_one10 wd _ [36, 114, 101, 102], HD.out.alloc HD.out.size _⟩ ?_
        rintro w4 ⟨ht3, hst, hbw⟩
        have HST3 := Lib.hid hst
        have HB3 := Lib.hid hbw
        clear hst hbw ht
        refine hK.out _ _ ht3 (fun ht => ?_)
        clear hK K ht3
        try simp only [Act.put, List.setIfInBounds_toArray, List.set_cons_zero, List.set_cons_succ]
        refine wpAnyH_ready (rs := [3]) (by kernel_rfl) (by simp) ?_
        refine AllReadyH.cons (o := ⟨some _, _, _, _, _, _⟩) rfl (fun K hK => ?_) AllReadyH.nil
        go_simp
        refine (ptrShow_any [[36, 114, 101, 102]] (some ⟨wd.heap.size, 0, none⟩) 1 w4 (HMT.out.keep HB3.out (Nat.le_refl _)) HST3.out (Nat.le_refl _) (by unfold maxLen; omega) (by decide)).mono ?_
        rintro e4 w5 ⟨rfl, hb4⟩
        have hs4 : Blk w5 gb 45 #[.string ⟨(text P).toArray⟩, .bool nall, .bool npass, .slice A2 keys.length c2] := Blk.on ht hb4
        have HB4 := Lib.hid (HB3.out.trans (hb4.mono HB3.out.size))
        clear hb4 ht
        have hrl : (text [[36, 114, 101, 102]]).length ≤ 100 := by decide
        have hcat : ∀ W, (Op.stringOp .add ⟨(text P).toArray⟩ ⟨(text [[36, 114, 101, 102]]).toArray⟩).run Tryd.prog W = .ok (.string ⟨(text (P ++ [[36, 114, 101, 102]])).toArray⟩) W := fun W => by rw [text_append]; exact cat_mk W _ _ (by omega)
        go_wp2_with fail
        refine hK.out _ _ hs4 (fun ht => ?_)
        clear hK K hs4
        try simp only [Act.put, List.setIfInBounds_toArray, List.set_cons_zero, List.set_cons_succ]
        refine wpAnyH_take (i := 8) (oi := ⟨some _, _, _, _, _, _⟩) (v := (.slice none 0 0)) rfl (by kernel_rfl) (by kernel_rfl) (by kernel_rfl) (fun _ _ _ h => h) (Or.inl ⟨by rfl, ?_⟩) ht ?_
        · intro W9 hSw
          go_simp
        try simp only [Act.put, List.setIfInBounds_toArray, List.set_cons_zero, List.set_cons_succ]
        refine wpAnyH_take (i := 4) (oi := ⟨some _, _, _, _, _, _⟩) (v := (.string ⟨(text (P ++ [[36, 114, 101, 102]])).toArray⟩)) rfl (by kernel_rfl) (by kernel_rfl) (by kernel_rfl) (fun _ _ _ h => h) (Or.inl ⟨by rfl, ?_⟩) ht ?_
        · intro W9 hSw
          go_simp
        try simp only [Act.put, List.setIfInBounds_toArray, List.set_cons_zero, List.set_cons_succ]
        refine wpAnyH_take (i := 5) (oi := ⟨some _, _, _, _, _, _⟩) (v := (.agg #[.string ⟨(text (P ++ [[36, 114, 101, 102]])).toArray⟩, .int .i64 12])) rfl (by kernel_rfl) (by kernel_rfl) (by kernel_rfl) (fun _ _ _ h => h) (Or.inl ⟨by rfl, ?_⟩) ht ?_
        · intro W9 hSw
          go_simp
        try simp only [Act.put, List.setIfInBounds_toArray, List.set_cons_zero, List.set_cons_succ]
        refine wpAnyH_ready (rs := [6]) (by kernel_rfl) (by simp) ?_
        refine AllReadyH.cons (o := ⟨some _, _, _, _, _, _⟩) rfl (fun K hK => ?_) AllReadyH.nil
        go_simp
        refine via10 (K := K) (fun W9 => Blk W9 gb 45 #[.string ⟨(text P).toArray⟩, .bool nall, .bool npass, .slice A2 keys.length c2] ∧ SpellAt W9 w5.heap.size (text (P ++ [[36, 114, 101, 102]])) 12 ∧ Below w.heap.size w W9) ⟨Blk.alloc ht _, ⟨(Blk.new w5 64 #[.string ⟨(text (P ++ [[36, 114, 101, 102]])).toArray⟩, .int .i64 12]).cell 0, (Blk.new w5 64 #[.string ⟨(text (P ++ [[36, 114, 101, 102]])).toArray⟩, .int .i64 12]).cell 1⟩, HB4.out.alloc HB4.out.size _⟩ ?_
        rintro w6 ⟨ht3, hsp, hbw⟩
        have HSP := Lib.hid hsp
        have HB6 := Lib.hid hbw
        clear hsp hbw ht
        refine hK.out _ _ ht3 (fun ht => ?_)
        clear hK K ht3
        try simp only [Act.put, List.setIfInBounds_toArray, List.set_cons_zero, List.set_cons_succ]
        refine wpAnyH_take (i := 7) (oi := ⟨some _, _, _, _, _, _⟩) (v := (.iface 61 (.pointer (some ⟨w5.heap.size, 0, none⟩)))) rfl (by kernel_rfl) (by kernel_rfl) (by kernel_rfl) (fun _ _ _ h => h) (Or.inl ⟨by rfl, ?_⟩) ht ?_
        · intro W9 hSw
          go_simp
        try simp only [Act.put, List.setIfInBounds_toArray, List.set_cons_zero, List.set_cons_succ]
        refine wpAnyH_take (i := 9) (oi := ⟨some _, _, _, _, _, _⟩) (v := (.iface 61 (.pointer (some ⟨w5.heap.size, 0, none⟩)))) rfl (by kernel_rfl) (by kernel_rfl) (by kernel_rfl) (fun _ _ _ h => h) (Or.inl ⟨by rfl, ?_⟩) ht ?_
        · intro W9 hSw
          go_simp
        try simp only [Act.put, List.setIfInBounds_toArray, List.set_cons_zero, List.set_cons_succ]
        refine wpAnyH_done (by kernel_rfl) ?_ _
        clear ht hcat hrl
        go_wp2_with fail
        go_ret2
        exact ⟨HB6.out, .inr ⟨P ++ [[36, 114, 101, 102]], w5.heap.size, HBD.out, rfl, HSP.out⟩⟩
    · obtain rfl : j = l.length := by omega
      have HLF := Lib.hid (show Cm.linkNodes l l = .ok os by have := HLK.out; rwa [List.take_length] at this)
      have HSL := Lib.hid (show SlN wr.cell? A1 os by have := HRW.out; rw [List.drop_length, List.append_nil] at this; exact this.slN)
      go_wp2_with fail
      go_ret2
      exact ⟨HB.out, .inl ⟨os, A1, c1, HLF.out, HOS.out, rfl, HSL.out, hc1, HC2.out⟩⟩

set_option linter.unusedVariables false in
set_option linter.unusedSimpArgs false in
set_option maxRecDepth 100000 in
set_option maxHeartbeats 4000000 in
theorem link12_any : LinkT MaxT := by
  intro l A cA w hT hs h1 h2 hgd
  have HLA := Lib.hid (linkAll_any l A cA w hT hs h1 h2 hgd)
  have HGD := Lib.hid hgd
  have hlen := hgd.few
  clear hT hs h1 h2 hgd
  go_enter Tryd.func8, Tryd.ntmps8
  go_wp2_with fail
  refine HLA.out.mono ?_
  rintro e1 w1 ⟨hb1, ⟨os, A', c', hlk, hol, rfl, hsl, hle1, hle2⟩ | ⟨p, b, hlk, rfl, hsp⟩⟩
  · have HB1 := Lib.hid hb1
    have HLK := Lib.hid hlk
    have HOL := Lib.hid hol
    have HSL := Lib.hid hsl
    have HIN := Lib.hid (Cm.linked_inside HGD.out.inside hlk)
    have HKF := Lib.hid (Cm.linked_few hlk HGD.out.keys HGD.out.kids)
    have HLE := Lib.hid hle2
    unfold maxLen at hle2
    clear hb1 hlk hol hsl HLA
    go_wp2_with fail
    go_loopw [18] (fun i wr => ∃ j : Nat, j ≤ l.length ∧ i = .int .i64 j ∧ Below w.heap.size w wr ∧ SlN wr.cell? A' os ∧ ∀ p, p < j → ¬ Cm.Leads os p p) (fun i _ => l.length - (intOf i).toNat)
    case atStart => exact ⟨0, by omega, rfl, HB1.out, HSL.out, fun p hp => absurd hp (Nat.not_lt_zero _)⟩
    case round =>
      obtain ⟨j, hj, rfl, hb, hs, hno⟩ := hrel
      have HB := Lib.hid hb
      have HS := Lib.hid hs
      have HNO := Lib.hid hno
      clear hb hs hno HB1 HSL
      by_cases hlt : j < l.length
      · have hlo : j < os.length := by rw [HOL.out]; exact hlt
        obtain ⟨g, o, cs, hA, ⟨A2, c2, rfl, _, _, _⟩, hcN⟩ := HS.out j _ (List.getElem?_eq_getElem hlo)
        subst hA
        have d0 := hcN 0 _ rfl
        have d1 := hcN 1 _ rfl
        have d2 := hcN 2 _ rfl
        have d3 := hcN 3 _ rfl
        have hgl := World.block_lt_of_cell? _ _ d0
        have hjj : (j : Int) < (l.length : Int) := by omega
        have HBC := Lib.hid (fun (W : World) (hW : Below wr.heap.size wr W) => comesBack_any os (some ⟨g, o, none⟩) c' j W (HS.out.keep (le_below hW)) (by rw [HOL.out]; exact hle1) HLE.out (by rw [HOL.out]; exact hlen) HIN.out.1 hlo HKF.out)
        rw [HOL.out] at HBC
        have HFI := Lib.hid (show Cm.Leads os j j → Cm.link l = .bad 13 (os[j]'hlo).at_ from fun h => by
          unfold Cm.link
          rw [HLK.out]
          simp only
          rw [Cm.ring_is (j := j) hlo h HNO.out]
          simp only
          rw [List.getElem?_eq_getElem hlo]
          rfl)
        simp only [Nat.add_zero] at d0
        clear hcN
        generalize os[j]'hlo = N at *
        obtain ⟨P, nall, npass, keys⟩ := N
        simp only at d0 d1 d2 d3 HFI
        have hb1 := (Below.refl wr.heap.size wr).alloc (Nat.le_refl _) (.cells #[.string ⟨(text P).toArray⟩, .bool nall, .bool npass, .slice A2 keys.length c2] 45)
        have HB1 := Lib.hid hb1
        have HBX := Lib.hid (Blk.new wr 45 #[.string ⟨(text P).toArray⟩, .bool nall, .bool npass, .slice A2 keys.length c2])
        clear hb1
        go_upto_region 7 with (fail)
        generalize wr.alloc (.cells #[.string ⟨(text P).toArray⟩, .bool nall, .bool npass, .slice A2 keys.length c2] 45) = wb at *
        obtain ⟨gb, hgb⟩ : ∃ gb, wr.heap.size = gb := ⟨_, rfl⟩
        have HBX2 := Lib.hid (show Blk wb gb 45 #[.string ⟨(text P).toArray⟩, .bool nall, .bool npass, .slice A2 keys.length c2] by rw [← hgb]; exact HBX.out)
        rw [hgb]
        clear d0 d1 d2 d3 hgl HBX hgb
        go_wp2_with fail
        refine (HBC.out wb HB1.out).mono ?_
        rintro e3 w3 ⟨b, rfl, hbl, hb3⟩
        have HW3 := Lib.hid (show Below wr.heap.size wr w3 from HB1.out.trans (hb3.mono HB1.out.size))
        have HB3 := Lib.hid (HB.out.trans (HW3.out.mono HB.out.size))
        have HBX3 := Lib.hid (HBX2.out.on hb3)
        have HBL := Lib.hid hbl
        clear hb3 hbl HBC
        cases b with
        | false =>
          have HN2 := Lib.hid (show ¬ Cm.Leads os j j from fun h => by have := HBL.out.2 h; cases this)
          go_wp2_with fail
          go_roundw
          case rel => exact ⟨j + 1, by omega, by go_num, HB3.out, HS.out.keep (le_below HW3.out), fun p hp => by
            by_cases e : p = j
            · subst e; exact HN2.out
            · exact HNO.out p (by omega)⟩
          case measure => simp [intOf]; omega
        | true =>
          have HBD := Lib.hid (HFI.out (HBL.out.1 rfl))
          go_upto_region 8 with (fail)
          refine wp_region_held_drew (S := fun W9 => Blk W9 gb 45 #[.string ⟨(text P).toArray⟩, .bool nall, .bool npass, .slice A2 keys.length c2]) (by kernel_rfl) HBX3.out (fun ht => ?_)
          have HD := Lib.hid (show Below w.heap.size w w3.drew from HB3.out.trans ((Below.refl _ _).drew.mono HB3.out.size))
          generalize w3.drew = wd at *
          refine wpAnyH_take (i := 0) (oi := ⟨some _, _, _, _, _, _⟩) (v := (.pointer (some ⟨gb, 0, none⟩))) rfl (by kernel_rfl) (by kernel_rfl) (by kernel_rfl) (fun _ _ _ h => h) (Or.inl ⟨by rfl, ?_⟩) ht ?_
          · intro W9 hSw
            go_simp
          try simp only [Act.put, List.setIfInBounds_toArray, List.set_cons_zero, List.set_cons_succ]
          refine wpAnyH_take (i := 1) (oi := ⟨some _, _, _, _, _, _⟩) (v := (.string ⟨(text P).toArray⟩)) rfl (by kernel_rfl) (by kernel_rfl) (by kernel_rfl) (fun _ _ _ h => h) (Or.inl ⟨by rfl, ?_⟩) ht ?_
          · intro W9 hSw
            have b0 := hSw.cell 0
            have bl := hSw.lt
            go_simp
          try simp only [Act.put, List.setIfInBounds_toArray, List.set_cons_zero, List.set_cons_succ]
          refine wpAnyH_take (i := 2) (oi := ⟨some _, _, _, _, _, _⟩) (v := (.agg #[.string ⟨(text P).toArray⟩, .int .i64 13])) rfl (by kernel_rfl) (by kernel_rfl) (by kernel_rfl) (fun _ _ _ h => h) (Or.inl ⟨by rfl, ?_⟩) ht ?_
          · intro W9 hSw
            go_simp
          try simp only [Act.put, List.setIfInBounds_toArray, List.set_cons_zero, List.set_cons_succ]
          refine wpAnyH_take (i := 5) (oi := ⟨some _, _, _, _, _, _⟩) (v := (.slice none 0 0)) rfl (by kernel_rfl) (by kernel_rfl) (by kernel_rfl) (fun _ _ _ h => h) (Or.inl ⟨by rfl, ?_⟩) ht ?_
          · intro W9 hSw
            go_simp
          try simp only [Act.put, List.setIfInBounds_toArray, List.set_cons_zero, List.set_cons_succ]
          refine wpAnyH_ready (rs := [3]) (by kernel_rfl) (by simp) ?_
          refine AllReadyH.cons (o := ⟨some _, _, _, _, _, _⟩) rfl (fun K hK => ?_) AllReadyH.nil
          go_simp
          refine via10 (K := K) (fun W9 => Blk W9 gb 45 #[.string ⟨(text P).toArray⟩, .bool nall, .bool npass, .slice A2 keys.length c2] ∧ SpellAt W9 wd.heap.size (text P) 13 ∧ Below w.heap.size w W9) ⟨Blk.alloc ht _, ⟨(Blk.new wd 64 #[.string ⟨(text P).toArray⟩, .int .i64 13]).cell 0, (Blk.new wd 64 #[.string ⟨(text P).toArray⟩, .int .i64 13]).cell 1⟩, HD.out.alloc HD.out.size _⟩ ?_
          rintro w6 ⟨ht3, hsp, hbw⟩
          have HSP := Lib.hid hsp
          have HB6 := Lib.hid hbw
          clear hsp hbw ht
          refine hK.out _ _ ht3 (fun ht => ?_)
          clear hK K ht3
          try simp only [Act.put, List.setIfInBounds_toArray, List.set_cons_zero, List.set_cons_succ]
          refine wpAnyH_take (i := 4) (oi := ⟨some _, _, _, _, _, _⟩) (v := (.iface 61 (.pointer (some ⟨wd.heap.size, 0, none⟩)))) rfl (by kernel_rfl) (by kernel_rfl) (by kernel_rfl) (fun _ _ _ h => h) (Or.inl ⟨by rfl, ?_⟩) ht ?_
          · intro W9 hSw
            go_simp
          try simp only [Act.put, List.setIfInBounds_toArray, List.set_cons_zero, List.set_cons_succ]
          refine wpAnyH_take (i := 6) (oi := ⟨some _, _, _, _, _, _⟩) (v := (.iface 61 (.pointer (some ⟨wd.heap.size, 0, none⟩)))) rfl (by kernel_rfl) (by kernel_rfl) (by kernel_rfl) (fun _ _ _ h => h) (Or.inl ⟨by rfl, ?_⟩) ht ?_
          · intro W9 hSw
            go_simp
          try simp only [Act.put, List.setIfInBounds_toArray, List.set_cons_zero, List.set_cons_succ]
          refine wpAnyH_done (by kernel_rfl) ?_ _
          clear ht
          go_wp2_with fail
          go_ret2
          refine ⟨none, 0, spellV wd.heap.size, ?_, ?_⟩
          · rw [HBD.out]; rfl
          · rw [HBD.out]
            exact ⟨fun i N h => by simp [Cm.outL] at h, Nat.le_refl _, by unfold maxLen; omega, .inr ⟨by simp [Cm.outC], wd.heap.size, rfl, HSP.out⟩, fun h => by simp [spellV] at h, HB6.out⟩
      · obtain rfl : j = l.length := by omega
        have HFI := Lib.hid (show Cm.link l = .ok os by
          unfold Cm.link
          rw [HLK.out]
          simp only
          rw [Cm.ring_not (fun p hp => HNO.out p (by rw [← HOL.out]; exact hp))])
        go_wp2_with fail
        go_ret2
        refine ⟨A', c', .nilIface, ?_, ?_⟩
        · rw [HFI.out, show Cm.outL (.ok os) = os from rfl, HOL.out]; rfl
        · rw [HFI.out]
          exact ⟨HS.out, by rw [show Cm.outL (.ok os) = os from rfl, HOL.out]; exact hle1, HLE.out, .inl ⟨rfl, rfl, rfl⟩, fun _ => ⟨os, rfl⟩, HB.out⟩
  · have HLK := Lib.hid (show Cm.link l = .bad 12 p by unfold Cm.link; rw [hlk])
    have HSP := Lib.hid hsp
    have HB1 := Lib.hid hb1
    clear hlk hsp hb1 HLA
    rw [show spellV b = .iface 61 (.pointer (some ⟨b, 0, none⟩)) from rfl]
    go_wp2_with fail
    go_ret2
    refine ⟨none, 0, spellV b, ?_, ?_⟩
    · rw [HLK.out]; rfl
    · rw [HLK.out]
      exact ⟨fun i N h => by simp [Cm.outL] at h, Nat.le_refl _, by unfold maxLen; omega, .inr ⟨by simp [Cm.outC], b, rfl, HSP.out⟩, fun h => by simp [spellV] at h, HB1.out⟩

end Go.Proofs.YticpgjhckjhfeaaDoor

