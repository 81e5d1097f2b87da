/- The document's Sort (layer 13). (By gen_gc.py.) -/
import Derived.Test.YtccacjkogdmleaaDoorGb
import Derived.Test.YtccacjkogdmleaaDoorCb
namespace Go.Proofs.YtccacjkogdmleaaDoor
open Go.RowKit Js

theorem Fl.ins_at {x : Fl.F} : ∀ {l : List Fl.F} {k : Nat}, (∀ q y, q < k → l[q]? = some y → Fl.above x y = true) → Fl.ins x l = l.take k ++ Fl.ins x (l.drop k)
  | _, 0, _ => rfl
  | [], k + 1, _ => by simp [Fl.ins]
  | y :: r, k + 1, h => by
    have h0 := h 0 y (by omega) rfl
    rw [List.take_succ_cons, List.drop_succ_cons, List.cons_append, ← Fl.ins_at (l := r) (k := k) (fun q z hq hz => h (q + 1) z (by omega) (by simpa using hz))]
    rw [Fl.ins, if_pos h0]
theorem Fl.ins_end {x : Fl.F} {l : List Fl.F} (h : ∀ q y, q < l.length → l[q]? = some y → Fl.above x y = true) : Fl.ins x l = l.take l.length ++ (x :: l.drop l.length) := by
  rw [Fl.ins_at h, List.drop_length]
  rfl
theorem Fl.ins_mid {x y : Fl.F} {l : List Fl.F} {k : Nat} (h : ∀ q y, q < k → l[q]? = some y → Fl.above x y = true) (hy : l[k]? = some y) (hn : Fl.above x y = false) (hne : ¬ y = x) : Fl.ins x l = l.take k ++ (x :: l.drop k) := by
  have hk := (List.getElem?_eq_some_iff.1 hy).1
  have hd : l.drop k = y :: l.drop (k + 1) := by
    rw [List.drop_eq_getElem_cons hk]
    congr 1
    exact (List.getElem?_eq_some_iff.1 hy).2
  rw [Fl.ins_at h, hd, Fl.ins, if_neg (by rw [hn]; decide), if_neg hne]
theorem Fl.ins_same {x : Fl.F} {l : List Fl.F} {k : Nat} (h : ∀ q y, q < k → l[q]? = some y → Fl.above x y = true) (hy : l[k]? = some x) : Fl.ins x l = l := by
  have hk := (List.getElem?_eq_some_iff.1 hy).1
  have hd : l.drop k = x :: l.drop (k + 1) := by
    rw [List.drop_eq_getElem_cons hk]
    congr 1
    exact (List.getElem?_eq_some_iff.1 hy).2
  have hn : ¬ Fl.above x x = true := fun e => Fl.lt_no x ((Fl.above_iff x x).1 e)
  rw [Fl.ins_at h, hd, Fl.ins, if_neg hn, if_pos rfl, ← hd, List.take_append_drop]
theorem Fl.sortOn_next {l : List Fl.F} {i : Nat} (hi : i < l.length) {x : Fl.F} (hx : l[i] = x) (out : List Fl.F) : Fl.sortOn out (l.take (i + 1)) = Fl.ins x (Fl.sortOn out (l.take i)) := by
  rw [List.take_succ_eq_append_getElem hi, Fl.sortOn_append, hx]
  rfl
theorem ownBlock_is13 {g n c b : Nat} (h : (Value.slice (some ⟨g, 0, none⟩) n c).ownBlock = some b) : b = g := by simpa [Value.ownBlock] using h.symm
/-- What is appended of a row of one's own. -/
theorem own_src {w : World} {B n c : Nat} {A : Option Addr} {xs : List Value} (h : w.ownsRow B 28 3 (.slice A n c) n xs) (hx : xs.length = n * 3) : Src w A n c xs := by
  have hl := own_le h
  cases A with
  | none =>
    obtain ⟨h1, h2⟩ := hl.2.2.1 rfl
    exact .inl ⟨rfl, h1, h2, List.eq_nil_of_length_eq_zero (by omega)⟩
  | some ad =>
    obtain ⟨g, rfl, _⟩ := hl.2.2.2 ad rfl
    exact .inr ⟨_, rfl, fun j u hu => by rw [add_at13, Nat.zero_add]; exact own_cell h j u hu⟩

set_option linter.unusedVariables false in
set_option linter.unusedSimpArgs false in
set_option maxRecDepth 100000 in
set_option maxHeartbeats 8000000 in
theorem refSort_any (l : List Fl.F) (A : Option Addr) (c : Nat) (w : World) (hs : SlF w.cell? A l) (hl : l.length ≤ c) (hm : c ≤ maxLen) (hn : l.length ≤ 1000000) :
    Calls Tryd.prog 6 #[.slice A l.length c] w fun e w' => ∃ (Ao : Option Addr) (co : Nat), e = .returned (.slice Ao (Fl.sort l).length co) ∧ SlF w'.cell? Ao (Fl.sort l) ∧ (Fl.sort l).length ≤ co ∧ co ≤ maxLen ∧ (Ao = none → co = 0) ∧ Below w.heap.size w w' := by
  have HS := Lib.hid hs
  unfold maxLen at hm
  clear hs
  go_enter Tryd.func6, Tryd.ntmps6
  go_wp2_with fail
  go_loopw [3, 4] (fun o3 i4 wr => ∃ (i : Nat) (Ao : Option Addr) (co : Nat) (acc : List Fl.F), o3 = .slice Ao acc.length co ∧ i4 = .int .i64 i ∧ i ≤ l.length ∧ acc = Fl.sortOn [] (l.take i) ∧ SlF wr.cell? Ao acc ∧ (Ao = none → co = 0) ∧ acc.length ≤ co ∧ co ≤ maxLen ∧ acc.length ≤ i ∧ Below w.heap.size w wr) (fun _ i _ => l.length - (intOf i).toNat)
  case atStart => exact ⟨0, none, 0, [], rfl, rfl, Nat.zero_le _, rfl, (fun i f h => by simp at h), fun _ => rfl, Nat.le_refl _, Nat.zero_le _, Nat.le_refl _, Below.refl _ _⟩
  case round =>
    obtain ⟨i, Ao, co, acc, rfl, rfl, hi, hacc, hso, hAo, hco1, hco2, hai, hbw⟩ := hrel
    have HBW := Lib.hid hbw
    have HO := Lib.hid hso
    have HAC := Lib.hid hacc
    unfold maxLen at hco2
    clear hbw hso hacc
    by_cases hlt : i < l.length
    · have hii : (i : Int) < (l.length : Int) := by omega
      obtain ⟨g, o, rfl, c0, c1, c2⟩ := HS.out i _ (List.getElem?_eq_getElem hlt)
      have HNX := Lib.hid (fun x (h : l[i]'hlt = x) => Fl.sortOn_next hlt h [])
      obtain ⟨⟨x1, x2, x3⟩, hx⟩ : ∃ x, l[i]'hlt = x := ⟨_, rfl⟩
      have HNXT := Lib.hid (show Fl.ins ⟨x1, x2, x3⟩ acc = Fl.sortOn [] (l.take (i + 1)) by rw [HNX.out _ hx, HAC.out])
      rw [hx] at c0 c1 c2
      simp only at c0 c1 c2
      obtain ⟨wq, hwq⟩ : ∃ W, W = wr := ⟨_, rfl⟩
      subst hwq
      have HXC0 := Lib.hid (fun (W : World) (h : Below w.heap.size w W) => (⟨le_below h _ _ c0, le_below h _ _ c1, le_below h _ _ c2⟩ : W.cell? ⟨g, o + i * 3, none⟩ = some (.string ⟨x1.toArray⟩) ∧ W.cell? ⟨g, o + i * 3 + 1, none⟩ = some (.string ⟨x2.toArray⟩) ∧ W.cell? ⟨g, o + i * 3 + 2, none⟩ = some (.string ⟨x3.toArray⟩)))
      clear c0 c1 c2 HNX hx HAC
      go_wp2_with fail
      go_loopw [5] (fun k5 wr => ∃ k : Nat, k5 = .int .i64 k ∧ k ≤ acc.length ∧ (∀ q y, q < k → acc[q]? = some y → Fl.above ⟨x1, x2, x3⟩ y = true) ∧ Below wq.heap.size wq wr) (fun k5 _ => acc.length - (intOf k5).toNat)
      case atStart => exact ⟨0, rfl, Nat.zero_le _, (fun q y h => absurd h (Nat.not_lt_zero _)), Below.refl _ _⟩
      case round =>
        obtain ⟨k, rfl, hk, hab, hbz⟩ := hrel
        obtain ⟨wz, hwz⟩ : ∃ W, W = wr := ⟨_, rfl⟩
        subst hwz
        have HBZ := Lib.hid hbz
        have HAB := Lib.hid hab
        have HXC := Lib.hid (fun (W : World) (h : Below wz.heap.size wz W) => HXC0.out W (HBW.out.trans ((HBZ.out.trans (h.mono HBZ.out.size)).mono HBW.out.size)))
        clear hbz hab
        by_cases hka : k < acc.length
        · have hkk : (k : Int) < (acc.length : Int) := by omega
          obtain ⟨g2, o2, hA2, d0, d1, d2⟩ := (HO.out.keep (le_below HBZ.out)) k _ (List.getElem?_eq_getElem hka)
          obtain ⟨y, hy⟩ : ∃ y, acc[k]'hka = y := ⟨_, rfl⟩
          have HY := Lib.hid (show acc[k]? = some y by rw [List.getElem?_eq_getElem hka, hy])
          rw [hy] at d0 d1 d2
          clear hy
          obtain ⟨y1, y2, y3⟩ := y
          simp only at d0 d1 d2
          have HYC := Lib.hid (fun (W : World) (h : Below wz.heap.size wz W) => (⟨le_below h _ _ d0, le_below h _ _ d1, le_below h _ _ d2⟩ : W.cell? ⟨g2, o2 + k * 3, none⟩ = some (.string ⟨y1.toArray⟩) ∧ W.cell? ⟨g2, o2 + k * 3 + 1, none⟩ = some (.string ⟨y2.toArray⟩) ∧ W.cell? ⟨g2, o2 + k * 3 + 2, none⟩ = some (.string ⟨y3.toArray⟩)))
          clear d0 d1 d2
          subst hA2
          have HABV := Lib.hid (fun W => refAbove_any ⟨x1, x2, x3⟩ ⟨y1, y2, y3⟩ W)
          unfold fV at HABV
          simp only at HABV
          obtain ⟨ab, habv⟩ : ∃ ab, Fl.above ⟨x1, x2, x3⟩ ⟨y1, y2, y3⟩ = ab := ⟨_, rfl⟩
          rw [habv] at HABV
          go_upto_region 7 with (fail)
          refine wp_region_held_drew (S := fun W9 => Below wz.heap.size wz W9) (by kernel_rfl) (show Below wz.heap.size wz wz.drew from below_drewN (Below.refl _ _) 1) (fun ht => ?_)
          generalize wz.drew = w8 at *
          refine wpAnyH_take (i := 0) (oi := ⟨some _, _, _, _, _, _⟩) (v := (.slice (some ⟨g, o, none⟩) l.length c)) rfl (by kernel_rfl) (by kernel_rfl) (by kernel_rfl) (fun _ _ _ h => h) (Or.inl ⟨by rfl, ?_⟩) ht ?_
          · intro W9 hSw
            go_simp
          try simp only [Act.put, List.setIfInBounds_toArray, List.set_cons_zero, List.set_cons_succ]
          refine wpAnyH_take (i := 1) (oi := ⟨some _, _, _, _, _, _⟩) (v := (.int .i64 i)) rfl (by kernel_rfl) (by kernel_rfl) (by kernel_rfl) (fun _ _ _ h => h) (Or.inl ⟨by rfl, ?_⟩) ht ?_
          · intro W9 hSw
            go_simp
          try simp only [Act.put, List.setIfInBounds_toArray, List.set_cons_zero, List.set_cons_succ]
          refine wpAnyH_take (i := 2) (oi := ⟨some _, _, _, _, _, _⟩) (v := (.pointer (some ⟨g, o + i * 3, none⟩))) rfl (by kernel_rfl) (by kernel_rfl) (by kernel_rfl) (fun _ _ _ h => h) (Or.inl ⟨by rfl, ?_⟩) ht ?_
          · intro W9 hSw
            go_simp
          try simp only [Act.put, List.setIfInBounds_toArray, List.set_cons_zero, List.set_cons_succ]
          refine wpAnyH_take (i := 3) (oi := ⟨some _, _, _, _, _, _⟩) (v := (.agg #[.string ⟨x1.toArray⟩, .string ⟨x2.toArray⟩, .string ⟨x3.toArray⟩])) rfl (by kernel_rfl) (by kernel_rfl) (by kernel_rfl) (fun _ _ _ h => h) (Or.inl ⟨by rfl, ?_⟩) ht ?_
          · intro W9 hSw
            obtain ⟨c0, c1, c2⟩ := HXC.out W9 hSw
            have hgl := World.block_lt_of_cell? _ _ c0
            go_simp
          try simp only [Act.put, List.setIfInBounds_toArray, List.set_cons_zero, List.set_cons_succ]
          refine wpAnyH_take (i := 4) (oi := ⟨some _, _, _, _, _, _⟩) (v := (.slice (some ⟨g2, o2, none⟩) acc.length co)) rfl (by kernel_rfl) (by kernel_rfl) (by kernel_rfl) (fun _ _ _ h => h) (Or.inl ⟨by rfl, ?_⟩) ht ?_
          · intro W9 hSw
            go_simp
          try simp only [Act.put, List.setIfInBounds_toArray, List.set_cons_zero, List.set_cons_succ]
          refine wpAnyH_take (i := 5) (oi := ⟨some _, _, _, _, _, _⟩) (v := (.int .i64 k)) rfl (by kernel_rfl) (by kernel_rfl) (by kernel_rfl) (fun _ _ _ h => h) (Or.inl ⟨by rfl, ?_⟩) ht ?_
          · intro W9 hSw
            go_simp
          try simp only [Act.put, List.setIfInBounds_toArray, List.set_cons_zero, List.set_cons_succ]
          refine wpAnyH_take (i := 6) (oi := ⟨some _, _, _, _, _, _⟩) (v := (.pointer (some ⟨g2, o2 + k * 3, none⟩))) rfl (by kernel_rfl) (by kernel_rfl) (by kernel_rfl) (fun _ _ _ h => h) (Or.inl ⟨by rfl, ?_⟩) ht ?_
          · intro W9 hSw
            go_simp
          try simp only [Act.put, List.setIfInBounds_toArray, List.set_cons_zero, List.set_cons_succ]
          refine wpAnyH_take (i := 7) (oi := ⟨some _, _, _, _, _, _⟩) (v := (.agg #[.string ⟨y1.toArray⟩, .string ⟨y2.toArray⟩, .string ⟨y3.toArray⟩])) rfl (by kernel_rfl) (by kernel_rfl) (by kernel_rfl) (fun _ _ _ h => h) (Or.inl ⟨by rfl, ?_⟩) ht ?_
          · intro W9 hSw
            obtain ⟨d0, d1, d2⟩ := HYC.out W9 hSw
            have hgl := World.block_lt_of_cell? _ _ d0
            go_simp
          try simp only [Act.put, List.setIfInBounds_toArray, List.set_cons_zero, List.set_cons_succ]
          refine wpAnyH_ready (rs := [8]) (by kernel_rfl) (by simp) ?_
          refine AllReadyH.cons (o := ⟨some _, _, _, _, _, _⟩) rfl (fun K hK => ?_) (AllReadyH.nil)
          go_simp
          refine (HABV.out _).mono ?_
          rintro e9 w9 ⟨rfl, hb9⟩
          have hb9 := ht.trans (hb9.mono ht.size)
          clear ht
          go_wp2_with fail
          refine hK.out _ _ hb9 (fun ht => ?_)
          clear hK K hb9
          try simp only [Act.put, List.setIfInBounds_toArray, List.set_cons_zero, List.set_cons_succ]
          refine wpAnyH_take (i := 9) (oi := ⟨some _, _, _, _, _, _⟩) (v := (.bool ab)) rfl (by kernel_rfl) (by kernel_rfl) (by kernel_rfl) (fun _ _ _ h => h) (Or.inl ⟨by rfl, ?_⟩) ht ?_
          · intro W9 hSw
            go_simp
          try simp only [Act.put, List.setIfInBounds_toArray, List.set_cons_zero, List.set_cons_succ]
          refine wpAnyH_done (by kernel_rfl) ?_ _
          have HB9 := Lib.hid ht
          clear ht
          cases ab with
          | true =>
            go_wp2_with fail
            go_roundw
            case rel => exact ⟨k + 1, by go_num, by omega, (fun q y hq hy => by
              by_cases e : q = k
              · subst e; rw [HY.out] at hy; injection hy with hy; rw [← hy]; exact habv
              · exact HAB.out q y (by omega) hy), HBZ.out.trans (HB9.out.mono HBZ.out.size)⟩
            case measure => simp [intOf]; omega
          | false =>
            obtain ⟨wy, hwy⟩ : ∃ W, W = w9 := ⟨_, rfl⟩
            subst hwy
            have HBY := Lib.hid (HBZ.out.trans (HB9.out.mono HBZ.out.size))
            obtain ⟨c0, c1, c2⟩ := HXC.out wy HB9.out
            obtain ⟨d0, d1, d2⟩ := HYC.out wy HB9.out
            have hgl := World.block_lt_of_cell? _ _ c0
            have hgl2 := World.block_lt_of_cell? _ _ d0
            by_cases hxy : (⟨y1, y2, y3⟩ : Fl.F) = ⟨x1, x2, x3⟩
            · obtain ⟨rfl, rfl, rfl⟩ := Fl.F.eq_iff.1 hxy
              have HSAME := Lib.hid (Fl.ins_same HAB.out HY.out)
              go_upto_region 11 with (fail)
              go_quiet (fail)
              go_wp2_with fail
              go_roundw
              case rel => exact ⟨i + 1, _, co, acc, rfl, by go_num, by omega, HSAME.out.symm.trans HNXT.out, HO.out.keep (le_below (below_drewN HBY.out _)), (fun h => by cases h), by omega, by unfold maxLen; omega, by omega, HBW.out.trans ((below_drewN HBY.out _).mono HBW.out.size)⟩
              case measure => simp [intOf]; omega
            · have HINS := Lib.hid (show Fl.ins ⟨x1, x2, x3⟩ acc = acc.take k ++ (⟨x1, x2, x3⟩ :: acc.drop k) from Fl.ins_mid HAB.out HY.out habv hxy)
              go_upto_region 11 with (fail)
              go_cut [43] from 35 to 42 (fun v43 wc => v43 = .bool false ∧ Below wy.heap.size wy wc)
              case first =>
                have hne : ¬ y1 = x1 ∨ (y1 = x1 ∧ ¬ y2 = x2) ∨ (y1 = x1 ∧ y2 = x2 ∧ ¬ y3 = x3) := by
                  by_cases h1 : y1 = x1
                  · by_cases h2 : y2 = x2
                    · exact .inr (.inr ⟨h1, h2, fun h3 => hxy (Fl.F.eq_iff.2 ⟨h1, h2, h3⟩)⟩)
                    · exact .inr (.inl ⟨h1, h2⟩)
                  · exact .inl h1
                rcases hne with h1 | ⟨rfl, h1⟩ | ⟨rfl, rfl, h1⟩
                all_goals
                  have e1 := beq_eq_false_iff_ne.2 h1
                  go_quiet (fail)
                  go_wp2_with fail
                  go_meet
                  case rel => exact ⟨rfl, below_drewN (Below.refl _ _) _⟩
              case rest =>
                obtain ⟨rfl, hbc⟩ := hcut
                obtain ⟨wz2, hwz2⟩ : ∃ W, W = wc := ⟨_, rfl⟩
                subst hwz2
                have HXC2 := Lib.hid (fun (W : World) (h : Below wz2.heap.size wz2 W) => HXC.out W (HB9.out.trans ((hbc.trans (h.mono hbc.size)).mono HB9.out.size)))
                have HBZ2 := Lib.hid (HBY.out.trans (hbc.mono HBY.out.size))
                clear hbc HBY HB9 HYC HXC HBZ c0 c1 c2 d0 d1 d2 hgl hgl2
                have HXC := HXC2
                have HBZ := HBZ2
                clear HXC2 HBZ2
                obtain ⟨wz, hwz⟩ : ∃ W, W = wz2 := ⟨_, rfl⟩
                subst hwz
                obtain ⟨Ao, hAo2⟩ : ∃ A, A = (some (⟨g2, o2, none⟩ : Addr)) := ⟨_, rfl⟩
                rw [← hAo2] at HO hAo ⊢
                clear hAo2
                have HSR7 := Lib.hid (fun (W : World) (h : Below wz.heap.size wz W) => (HO.out.keep ((le_below HBZ.out).trans (le_below h))).src (k := k) hAo hk hco1)
                obtain ⟨A7, hA7⟩ : ∃ A7, A7 = (if co = k then Ao else Ao.map (·.add (k * 3))) := ⟨_, rfl⟩
                rw [← hA7] at HSR7
                have hs7 : ∀ W : World, (Instr.slice 22 (.slice Ao acc.length co) (some (.int .i64 (k : Int))) none none).run Tryd.prog W = .ok (.slice A7 (acc.length - k) (co - k)) W := fun W => by
                  rw [run_slice_l W 22 Ao acc.length co (by simp [Program.elem, Tryd.underlying22]) .i64 (k : Int) (by omega) (by omega), hA7]
                  obtain ⟨i0, hi0, hz0, hz1, hz2⟩ := infoFault
                  rw [show Tryd.prog.elem 22 = 28 by simp [Program.elem, Tryd.underlying22]]
                  simp [sizeOf, typeInfo, hi0, hz1, sliced]
                clear hA7
                obtain ⟨i0, hi0, hz0, hz1, hz2⟩ := infoFault
                go_upto_region 12 with (fail)
                have HBD := Lib.hid (show Below wz.heap.size wz wz.drew from below_drewN (Below.refl _ _) 1)
                refine wp_region_held_drew (S := fun W9 => Below wz.heap.size wz W9) (by kernel_rfl) HBD.out (fun ht => ?_)
                have HWS := Lib.hid (show wz.drew.heap.size = wz.heap.size from rfl)
                generalize wz.drew = w8 at *
                refine wpAnyH_take (i := 0) (oi := ⟨some _, _, _, _, _, _⟩) (v := (.slice (some ⟨g, o, none⟩) l.length c)) rfl (by kernel_rfl) (by kernel_rfl) (by kernel_rfl) (fun _ _ _ h => h) (Or.inl ⟨by rfl, ?_⟩) ht ?_
                · intro W9 hSw
                  go_simp
                try simp only [Act.put, List.setIfInBounds_toArray, List.set_cons_zero, List.set_cons_succ]
                refine wpAnyH_take (i := 1) (oi := ⟨some _, _, _, _, _, _⟩) (v := (.int .i64 i)) rfl (by kernel_rfl) (by kernel_rfl) (by kernel_rfl) (fun _ _ _ h => h) (Or.inl ⟨by rfl, ?_⟩) ht ?_
                · intro W9 hSw
                  go_simp
                try simp only [Act.put, List.setIfInBounds_toArray, List.set_cons_zero, List.set_cons_succ]
                refine wpAnyH_take (i := 2) (oi := ⟨some _, _, _, _, _, _⟩) (v := (.pointer (some ⟨g, o + i * 3, none⟩))) rfl (by kernel_rfl) (by kernel_rfl) (by kernel_rfl) (fun _ _ _ h => h) (Or.inl ⟨by rfl, ?_⟩) ht ?_
                · intro W9 hSw
                  go_simp
                try simp only [Act.put, List.setIfInBounds_toArray, List.set_cons_zero, List.set_cons_succ]
                refine wpAnyH_take (i := 3) (oi := ⟨some _, _, _, _, _, _⟩) (v := (.agg #[.string ⟨x1.toArray⟩, .string ⟨x2.toArray⟩, .string ⟨x3.toArray⟩])) rfl (by kernel_rfl) (by kernel_rfl) (by kernel_rfl) (fun _ _ _ h => h) (Or.inl ⟨by rfl, ?_⟩) ht ?_
                · intro W9 hSw
                  obtain ⟨c0, c1, c2⟩ := HXC.out W9 hSw
                  have hgl := World.block_lt_of_cell? _ _ c0
                  go_simp
                try simp only [Act.put, List.setIfInBounds_toArray, List.set_cons_zero, List.set_cons_succ]
                refine wpAnyH_take (i := 5) (oi := ⟨some _, _, _, _, _, _⟩) (v := (.slice Ao acc.length co)) rfl (by kernel_rfl) (by kernel_rfl) (by kernel_rfl) (fun _ _ _ h => h) (Or.inl ⟨by rfl, ?_⟩) ht ?_
                · intro W9 hSw
                  go_simp
                try simp only [Act.put, List.setIfInBounds_toArray, List.set_cons_zero, List.set_cons_succ]
                refine wpAnyH_take (i := 6) (oi := ⟨some _, _, _, _, _, _⟩) (v := (.int .i64 k)) rfl (by kernel_rfl) (by kernel_rfl) (by kernel_rfl) (fun _ _ _ h => h) (Or.inl ⟨by rfl, ?_⟩) ht ?_
                · intro W9 hSw
                  go_simp
                try simp only [Act.put, List.setIfInBounds_toArray, List.set_cons_zero, List.set_cons_succ]
                refine wpAnyH_take (i := 7) (oi := ⟨some _, _, _, _, _, _⟩) (v := (.slice A7 (acc.length - k) (co - k))) rfl (by kernel_rfl) (by kernel_rfl) (by kernel_rfl) (fun _ _ _ h => h) (Or.inl ⟨by rfl, ?_⟩) ht ?_
                · intro W9 hSw
                  go_simp
                try simp only [Act.put, List.setIfInBounds_toArray, List.set_cons_zero, List.set_cons_succ]
                refine wpAnyH_ready (rs := [4]) (by kernel_rfl) (by simp) ?_
                refine AllReadyH.cons (o := ⟨some _, _, _, _, _, _⟩) rfl (fun K hK => ?_) (AllReadyH.nil)
                go_simp
                refine via10 (K := K) (fun W9 => Below wz.heap.size wz W9 ∧ W9.ownsRow w8.heap.size 28 3 (.slice (some ⟨w8.heap.size, 0, none⟩) 1 1) 1 (fCells ⟨x1, x2, x3⟩) ∧ w8.heap.size ≤ W9.heap.size) ⟨ht.alloc ht.size _, World.ownsRow_lit w8 #[.string ⟨x1.toArray⟩, .string ⟨x2.toArray⟩, .string ⟨x3.toArray⟩] 1 (Nat.le_refl _) (by unfold maxLen; omega) rfl, by simp⟩ ?_
                rintro w3 ⟨ht3, hn, hs3⟩
                have HN := Lib.hid hn
                clear hn ht
                refine hK.out _ _ ht3 (fun ht => ?_)
                clear hK K ht3
                try simp only [Act.put, List.setIfInBounds_toArray, List.set_cons_zero, List.set_cons_succ]
                obtain ⟨gN, hgN⟩ : ∃ g, g = w8.heap.size := ⟨_, rfl⟩
                rw [← hgN] at HN hs3 ⊢
                have hwN : wz.heap.size ≤ gN := by have := HWS.out; omega
                clear hgN HBD HWS
                refine wpAnyH_ready (rs := [8]) (by kernel_rfl) (by simp) ?_
                refine AllReadyH.cons (o := ⟨some _, _, _, _, _, _⟩) rfl (fun K hK => ?_) (AllReadyH.nil)
                refine step_append_src _ rfl _ _ _ rfl gN 28 i0 _ 3 48 Tryd.underlying22 hi0 hz0 hz1 hz2 rfl (by omega) (.slice (some ⟨gN, 0, none⟩) 1 1) 1 (fCells ⟨x1, x2, x3⟩) rfl HN.out A7 (acc.length - k) (co - k) (fFlat (acc.drop k)) rfl (by rw [fFlat_length, List.length_drop]) (HSR7.out _ ht) (fFlat_one _) (by unfold maxLen; omega) (by omega) (by omega) (1 + (acc.length - k)) rfl ?_
                intro A9 c9 w9 hown9 hg9 hat9
                have hb9 : Below wz.heap.size wz w9 := ht.grown hg9 ht.size (fun b hb => by rw [ownBlock_is13 hb]; omega)
                have HOW9 := Lib.hid hown9
                clear hown9 hg9 hat9 HN ht
                refine hK.out _ _ hb9 (fun ht => ?_)
                clear hK K hb9
                try simp only [Act.put, List.setIfInBounds_toArray, List.set_cons_zero, List.set_cons_succ]
                refine wpAnyH_take (i := 9) (oi := ⟨some _, _, _, _, _, _⟩) (v := (.slice A9 (1 + (acc.length - k)) c9)) rfl (by kernel_rfl) (by kernel_rfl) (by kernel_rfl) (fun _ _ _ h => h) (Or.inl ⟨by rfl, ?_⟩) ht ?_
                · intro W9 hSw
                  go_simp
                try simp only [Act.put, List.setIfInBounds_toArray, List.set_cons_zero, List.set_cons_succ]
                refine wpAnyH_done (by kernel_rfl) ?_ _
                have HB9 := Lib.hid ht
                clear ht hs7 HSR7
                have HSR8 := Lib.hid (fun (W : World) (h : Below w9.heap.size w9 W) => ((HO.out.keep ((le_below HBZ.out).trans (le_below HB9.out))).keep (le_below h)).srcTo (k := k) hAo hk hco1)
                obtain ⟨A8, hA8⟩ : ∃ A8, A8 = (if co = 0 then Ao else Ao.map (·.add (0 * 3))) := ⟨_, rfl⟩
                rw [← hA8] at HSR8
                have hs8 : ∀ W : World, (Instr.slice 22 (.slice Ao acc.length co) none (some (.int .i64 (k : Int))) none).run Tryd.prog W = .ok (.slice A8 k co) W := fun W => by
                  rw [run_slice_h W 22 Ao acc.length co (by simp [Program.elem, Tryd.underlying22]) .i64 (k : Int) (by omega) (by omega), hA8]
                  rw [show Tryd.prog.elem 22 = 28 by simp [Program.elem, Tryd.underlying22]]
                  simp [sizeOf, typeInfo, hi0, hz1, sliced]
                clear hA8
                have hws9 := HB9.out.size
                have hwz0 := HBZ.out.size
                have HOWE := Lib.hid (show (w9.alloc (.cells #[] 28)).ownsRow w9.heap.size 28 3 (.slice (some ⟨w9.heap.size, 0, none⟩) 0 0) 0 [] from World.ownsRow_lit w9 #[] 0 (Nat.le_refl _) (by unfold maxLen; omega) rfl)
                have HBE := Lib.hid ((Below.refl w9.heap.size w9).alloc (Nat.le_refl _) (.cells #[] 28))
                go_wp2_with (first
                  | (refine wpList_append_src _ rfl _ _ _ rfl w9.heap.size 28 i0 _ 3 48 Tryd.underlying22 hi0 hz0 hz1 hz2 rfl (by omega) (.slice (some ⟨w9.heap.size, 0, none⟩) 0 0) 0 [] rfl HOWE.out A8 k co (fFlat (acc.take k)) rfl (by rw [fFlat_length, List.length_take]; omega) (HSR8.out _ HBE.out) (fFlat_one _) (by unfold maxLen; omega) (by omega) (by simp) k (by omega) ?_; intro A10 c10 w10 hown10 hg10 hat10; have HB10 := Lib.hid (HBE.out.grown hg10 HBE.out.size (fun b hb => by rw [ownBlock_is13 hb]; exact Nat.le_refl _)); have HOW10 := Lib.hid (show w10.ownsRow w9.heap.size 28 3 (.slice A10 k c10) k (fFlat (acc.take k)) from hown10); have HSR9 := Lib.hid (own_src (own_keep HOW9.out (fun b hb1 hb2 => HB10.out.block b hb2)) (by simp [fCells, fFlat_length]; omega)); have hs10 := HB10.out.size; clear hown10 hg10 hat10)
                  | (refine wpList_append_src _ rfl _ _ _ rfl w9.heap.size 28 i0 _ 3 48 Tryd.underlying22 hi0 hz0 hz1 hz2 rfl (by omega) (.slice A10 k c10) k (fFlat (acc.take k)) rfl HOW10.out A9 (1 + (acc.length - k)) c9 (fCells ⟨x1, x2, x3⟩ ++ fFlat (acc.drop k)) rfl (by simp [fCells, fFlat_length]; omega) HSR9.out (by intro u hu; rcases List.mem_append.1 hu with h | h; simp [fCells] at h; rcases h with rfl | rfl | rfl <;> rfl; exact fFlat_one _ u h) (by unfold maxLen; omega) (by omega) (by omega) (acc.length + 1) (by omega) ?_; intro A11 c11 w11 hown11 hg11 hat11; have HB11 := Lib.hid (HB10.out.grown hg11 HB10.out.size (fun b hb => by have := own_far HOW10.out (k := b); exact Nat.le_of_not_lt (fun hlt => this hlt hb.symm))); have HOW11 := Lib.hid (show w11.ownsRow w9.heap.size 28 3 (.slice A11 (acc.length + 1) c11) (acc.length + 1) (fFlat (Fl.ins ⟨x1, x2, x3⟩ acc)) by rw [HINS.out, fFlat_append]; exact hown11); clear hown11 hg11 hat11))
                obtain ⟨q1, q2, q3, q4, q5⟩ := own_slF HOW11.out
                have HQ1 := Lib.hid q1
                have HQ2 := Lib.hid q2
                have HBF := Lib.hid (HBZ.out.trans ((HB9.out.trans (HB11.out.mono hws9)).mono hwz0))
                go_roundw
                case rel => exact ⟨i + 1, A11, c11, Fl.ins ⟨x1, x2, x3⟩ acc, by rw [← HQ2.out], by go_num, by omega, HNXT.out, HQ1.out, q5, by omega, q4, by omega, HBW.out.trans (HBF.out.mono HBW.out.size)⟩
                case measure => simp [intOf]; omega
        · have hke : k = acc.length := by omega
          have HINS := Lib.hid (show Fl.ins ⟨x1, x2, x3⟩ acc = acc.take k ++ (⟨x1, x2, x3⟩ :: acc.drop k) by rw [hke]; exact Fl.ins_end (by rw [← hke]; exact HAB.out))
          have hkn : ¬ (k : Int) < (acc.length : Int) := by omega
          have HKE := Lib.hid hke
          clear hke
          have HSR7 := Lib.hid (fun (W : World) (h : Below wz.heap.size wz W) => (HO.out.keep ((le_below HBZ.out).trans (le_below h))).src (k := k) hAo hk hco1)
          obtain ⟨A7, hA7⟩ : ∃ A7, A7 = (if co = k then Ao else Ao.map (·.add (k * 3))) := ⟨_, rfl⟩
          rw [← hA7] at HSR7
          have hs7 : ∀ W : World, (Instr.slice 22 (.slice Ao acc.length co) (some (.int .i64 (k : Int))) none none).run Tryd.prog W = .ok (.slice A7 (acc.length - k) (co - k)) W := fun W => by
            rw [run_slice_l W 22 Ao acc.length co (by simp [Program.elem, Tryd.underlying22]) .i64 (k : Int) (by omega) (by omega), hA7]
            obtain ⟨i0, hi0, hz0, hz1, hz2⟩ := infoFault
            rw [show Tryd.prog.elem 22 = 28 by simp [Program.elem, Tryd.underlying22]]
            simp [sizeOf, typeInfo, hi0, hz1, sliced]
          clear hA7
          obtain ⟨i0, hi0, hz0, hz1, hz2⟩ := infoFault
          go_upto_region 12 with (fail)
          have HBD := Lib.hid (show Below wz.heap.size wz wz.drew from below_drewN (Below.refl _ _) 1)
          refine wp_region_held_drew (S := fun W9 => Below wz.heap.size wz W9) (by kernel_rfl) HBD.out (fun ht => ?_)
          have HWS := Lib.hid (show wz.drew.heap.size = wz.heap.size from rfl)
          generalize wz.drew = w8 at *
          refine wpAnyH_take (i := 0) (oi := ⟨some _, _, _, _, _, _⟩) (v := (.slice (some ⟨g, o, none⟩) l.length c)) rfl (by kernel_rfl) (by kernel_rfl) (by kernel_rfl) (fun _ _ _ h => h) (Or.inl ⟨by rfl, ?_⟩) ht ?_
          · intro W9 hSw
            go_simp
          try simp only [Act.put, List.setIfInBounds_toArray, List.set_cons_zero, List.set_cons_succ]
          refine wpAnyH_take (i := 1) (oi := ⟨some _, _, _, _, _, _⟩) (v := (.int .i64 i)) rfl (by kernel_rfl) (by kernel_rfl) (by kernel_rfl) (fun _ _ _ h => h) (Or.inl ⟨by rfl, ?_⟩) ht ?_
          · intro W9 hSw
            go_simp
          try simp only [Act.put, List.setIfInBounds_toArray, List.set_cons_zero, List.set_cons_succ]
          refine wpAnyH_take (i := 2) (oi := ⟨some _, _, _, _, _, _⟩) (v := (.pointer (some ⟨g, o + i * 3, none⟩))) rfl (by kernel_rfl) (by kernel_rfl) (by kernel_rfl) (fun _ _ _ h => h) (Or.inl ⟨by rfl, ?_⟩) ht ?_
          · intro W9 hSw
            go_simp
          try simp only [Act.put, List.setIfInBounds_toArray, List.set_cons_zero, List.set_cons_succ]
          refine wpAnyH_take (i := 3) (oi := ⟨some _, _, _, _, _, _⟩) (v := (.agg #[.string ⟨x1.toArray⟩, .string ⟨x2.toArray⟩, .string ⟨x3.toArray⟩])) rfl (by kernel_rfl) (by kernel_rfl) (by kernel_rfl) (fun _ _ _ h => h) (Or.inl ⟨by rfl, ?_⟩) ht ?_
          · intro W9 hSw
            obtain ⟨c0, c1, c2⟩ := HXC.out W9 hSw
            have hgl := World.block_lt_of_cell? _ _ c0
            go_simp
          try simp only [Act.put, List.setIfInBounds_toArray, List.set_cons_zero, List.set_cons_succ]
          refine wpAnyH_take (i := 5) (oi := ⟨some _, _, _, _, _, _⟩) (v := (.slice Ao acc.length co)) rfl (by kernel_rfl) (by kernel_rfl) (by kernel_rfl) (fun _ _ _ h => h) (Or.inl ⟨by rfl, ?_⟩) ht ?_
          · intro W9 hSw
            go_simp
          try simp only [Act.put, List.setIfInBounds_toArray, List.set_cons_zero, List.set_cons_succ]
          refine wpAnyH_take (i := 6) (oi := ⟨some _, _, _, _, _, _⟩) (v := (.int .i64 k)) rfl (by kernel_rfl) (by kernel_rfl) (by kernel_rfl) (fun _ _ _ h => h) (Or.inl ⟨by rfl, ?_⟩) ht ?_
          · intro W9 hSw
            go_simp
          try simp only [Act.put, List.setIfInBounds_toArray, List.set_cons_zero, List.set_cons_succ]
          refine wpAnyH_take (i := 7) (oi := ⟨some _, _, _, _, _, _⟩) (v := (.slice A7 (acc.length - k) (co - k))) rfl (by kernel_rfl) (by kernel_rfl) (by kernel_rfl) (fun _ _ _ h => h) (Or.inl ⟨by rfl, ?_⟩) ht ?_
          · intro W9 hSw
            go_simp
          try simp only [Act.put, List.setIfInBounds_toArray, List.set_cons_zero, List.set_cons_succ]
          refine wpAnyH_ready (rs := [4]) (by kernel_rfl) (by simp) ?_
          refine AllReadyH.cons (o := ⟨some _, _, _, _, _, _⟩) rfl (fun K hK => ?_) (AllReadyH.nil)
          go_simp
          refine via10 (K := K) (fun W9 => Below wz.heap.size wz W9 ∧ W9.ownsRow w8.heap.size 28 3 (.slice (some ⟨w8.heap.size, 0, none⟩) 1 1) 1 (fCells ⟨x1, x2, x3⟩) ∧ w8.heap.size ≤ W9.heap.size) ⟨ht.alloc ht.size _, World.ownsRow_lit w8 #[.string ⟨x1.toArray⟩, .string ⟨x2.toArray⟩, .string ⟨x3.toArray⟩] 1 (Nat.le_refl _) (by unfold maxLen; omega) rfl, by simp⟩ ?_
          rintro w3 ⟨ht3, hn, hs3⟩
          have HN := Lib.hid hn
          clear hn ht
          refine hK.out _ _ ht3 (fun ht => ?_)
          clear hK K ht3
          try simp only [Act.put, List.setIfInBounds_toArray, List.set_cons_zero, List.set_cons_succ]
          obtain ⟨gN, hgN⟩ : ∃ g, g = w8.heap.size := ⟨_, rfl⟩
          rw [← hgN] at HN hs3 ⊢
          have hwN : wz.heap.size ≤ gN := by have := HWS.out; omega
          clear hgN HBD HWS
          refine wpAnyH_ready (rs := [8]) (by kernel_rfl) (by simp) ?_
          refine AllReadyH.cons (o := ⟨some _, _, _, _, _, _⟩) rfl (fun K hK => ?_) (AllReadyH.nil)
          refine step_append_src _ rfl _ _ _ rfl gN 28 i0 _ 3 48 Tryd.underlying22 hi0 hz0 hz1 hz2 rfl (by omega) (.slice (some ⟨gN, 0, none⟩) 1 1) 1 (fCells ⟨x1, x2, x3⟩) rfl HN.out A7 (acc.length - k) (co - k) (fFlat (acc.drop k)) rfl (by rw [fFlat_length, List.length_drop]) (HSR7.out _ ht) (fFlat_one _) (by unfold maxLen; omega) (by omega) (by omega) (1 + (acc.length - k)) rfl ?_
          intro A9 c9 w9 hown9 hg9 hat9
          have hb9 : Below wz.heap.size wz w9 := ht.grown hg9 ht.size (fun b hb => by rw [ownBlock_is13 hb]; omega)
          have HOW9 := Lib.hid hown9
          clear hown9 hg9 hat9 HN ht
          refine hK.out _ _ hb9 (fun ht => ?_)
          clear hK K hb9
          try simp only [Act.put, List.setIfInBounds_toArray, List.set_cons_zero, List.set_cons_succ]
          refine wpAnyH_take (i := 9) (oi := ⟨some _, _, _, _, _, _⟩) (v := (.slice A9 (1 + (acc.length - k)) c9)) rfl (by kernel_rfl) (by kernel_rfl) (by kernel_rfl) (fun _ _ _ h => h) (Or.inl ⟨by rfl, ?_⟩) ht ?_
          · intro W9 hSw
            go_simp
          try simp only [Act.put, List.setIfInBounds_toArray, List.set_cons_zero, List.set_cons_succ]
          refine wpAnyH_done (by kernel_rfl) ?_ _
          have HB9 := Lib.hid ht
          clear ht hs7 HSR7
          have HSR8 := Lib.hid (fun (W : World) (h : Below w9.heap.size w9 W) => ((HO.out.keep ((le_below HBZ.out).trans (le_below HB9.out))).keep (le_below h)).srcTo (k := k) hAo hk hco1)
          obtain ⟨A8, hA8⟩ : ∃ A8, A8 = (if co = 0 then Ao else Ao.map (·.add (0 * 3))) := ⟨_, rfl⟩
          rw [← hA8] at HSR8
          have hs8 : ∀ W : World, (Instr.slice 22 (.slice Ao acc.length co) none (some (.int .i64 (k : Int))) none).run Tryd.prog W = .ok (.slice A8 k co) W := fun W => by
            rw [run_slice_h W 22 Ao acc.length co (by simp [Program.elem, Tryd.underlying22]) .i64 (k : Int) (by omega) (by omega), hA8]
            rw [show Tryd.prog.elem 22 = 28 by simp [Program.elem, Tryd.underlying22]]
            simp [sizeOf, typeInfo, hi0, hz1, sliced]
          clear hA8
          have hws9 := HB9.out.size
          have hwz0 := HBZ.out.size
          have HOWE := Lib.hid (show (w9.alloc (.cells #[] 28)).ownsRow w9.heap.size 28 3 (.slice (some ⟨w9.heap.size, 0, none⟩) 0 0) 0 [] from World.ownsRow_lit w9 #[] 0 (Nat.le_refl _) (by unfold maxLen; omega) rfl)
          have HBE := Lib.hid ((Below.refl w9.heap.size w9).alloc (Nat.le_refl _) (.cells #[] 28))
          go_wp2_with (first
            | (refine wpList_append_src _ rfl _ _ _ rfl w9.heap.size 28 i0 _ 3 48 Tryd.underlying22 hi0 hz0 hz1 hz2 rfl (by omega) (.slice (some ⟨w9.heap.size, 0, none⟩) 0 0) 0 [] rfl HOWE.out A8 k co (fFlat (acc.take k)) rfl (by rw [fFlat_length, List.length_take]; omega) (HSR8.out _ HBE.out) (fFlat_one _) (by unfold maxLen; omega) (by omega) (by simp) k (by omega) ?_; intro A10 c10 w10 hown10 hg10 hat10; have HB10 := Lib.hid (HBE.out.grown hg10 HBE.out.size (fun b hb => by rw [ownBlock_is13 hb]; exact Nat.le_refl _)); have HOW10 := Lib.hid (show w10.ownsRow w9.heap.size 28 3 (.slice A10 k c10) k (fFlat (acc.take k)) from hown10); have HSR9 := Lib.hid (own_src (own_keep HOW9.out (fun b hb1 hb2 => HB10.out.block b hb2)) (by simp [fCells, fFlat_length]; omega)); have hs10 := HB10.out.size; clear hown10 hg10 hat10)
            | (refine wpList_append_src _ rfl _ _ _ rfl w9.heap.size 28 i0 _ 3 48 Tryd.underlying22 hi0 hz0 hz1 hz2 rfl (by omega) (.slice A10 k c10) k (fFlat (acc.take k)) rfl HOW10.out A9 (1 + (acc.length - k)) c9 (fCells ⟨x1, x2, x3⟩ ++ fFlat (acc.drop k)) rfl (by simp [fCells, fFlat_length]; omega) HSR9.out (by intro u hu; rcases List.mem_append.1 hu with h | h; simp [fCells] at h; rcases h with rfl | rfl | rfl <;> rfl; exact fFlat_one _ u h) (by unfold maxLen; omega) (by omega) (by omega) (acc.length + 1) (by omega) ?_; intro A11 c11 w11 hown11 hg11 hat11; have HB11 := Lib.hid (HB10.out.grown hg11 HB10.out.size (fun b hb => by have := own_far HOW10.out (k := b); exact Nat.le_of_not_lt (fun hlt => this hlt hb.symm))); have HOW11 := Lib.hid (show w11.ownsRow w9.heap.size 28 3 (.slice A11 (acc.length + 1) c11) (acc.length + 1) (fFlat (Fl.ins ⟨x1, x2, x3⟩ acc)) by rw [HINS.out, fFlat_append]; exact hown11); clear hown11 hg11 hat11))
          obtain ⟨q1, q2, q3, q4, q5⟩ := own_slF HOW11.out
          have HQ1 := Lib.hid q1
          have HQ2 := Lib.hid q2
          have HBF := Lib.hid (HBZ.out.trans ((HB9.out.trans (HB11.out.mono hws9)).mono hwz0))
          go_roundw
          case rel => exact ⟨i + 1, A11, c11, Fl.ins ⟨x1, x2, x3⟩ acc, by rw [← HQ2.out], by go_num, by omega, HNXT.out, HQ1.out, q5, by omega, q4, by omega, HBW.out.trans (HBF.out.mono HBW.out.size)⟩
          case measure => simp [intOf]; omega
    · obtain rfl : i = l.length := by omega
      have HFIN := Lib.hid (show acc = Fl.sort l by rw [HAC.out, List.take_length]; rfl)
      go_wp2_with fail
      go_ret
      rw [← HFIN.out]
      exact ⟨Ao, co, rfl, HO.out, hco1, by unfold maxLen; omega, hAo, HBW.out⟩

end Go.Proofs.YtccacjkogdmleaaDoor

