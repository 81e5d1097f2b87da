/- The walk of the program's linkKeys (layer 12). -/
import Derived.Test.YticpgjhckjhfeaaDoorEh
namespace Go.Proofs.YticpgjhckjhfeaaDoor
open Go.RowKit Js Pt

/-- What linkKeys tells. -/
def LinkKP (l : List Cm.Node) (P : Cm.Names) (keys : List Cm.Key) (R : Nat → Prop) (w : World) (e : Ending) (w' : World) : Prop :=
  Below w.heap.size w w' ∧ ((∃ (ks : List Cm.Key) (A' : Option Addr) (c' : Nat) (Rn : Nat → Prop), Cm.linkKeys l P keys = .ok ks ∧ ks.length = keys.length ∧ e = .returned (.tuple #[.slice A' keys.length c', .bool true]) ∧ SlX ItKey 10 (w'.on Rn) A' ks ∧ keys.length ≤ c' ∧ c' ≤ maxLen ∧ ∀ b, Rn b → b < w'.heap.size ∧ (R b ∨ w.heap.size ≤ b)) ∨
    (Cm.linkKeys l P keys = .bad 12 (P ++ [Cm.kRef]) ∧ e = .returned (.tuple #[.slice none 0 0, .bool false])))
theorem Cm.linkKeys_len {l : List Cm.Node} {P : Cm.Names} {keys ks : List Cm.Key} (h : Cm.linkKeys l P keys = .ok ks) : ks.length = keys.length := (Cm.linkKeys_ok h).1
/-- Those that are linked, and those that are still to be. -/
theorem mix_set {α : Type} {ks l : List α} {j : Nat} (hk : ks.length = j) (hj : j < l.length) (x : α) : (ks ++ l.drop j).set j x = (ks ++ [x]) ++ l.drop (j + 1) := by
  subst hk
  rw [List.set_append_right _ _ (Nat.le_refl _), Nat.sub_self, List.drop_eq_getElem_cons hj, List.set_cons_zero, List.append_assoc]
  rfl
theorem mix_at {α : Type} {ks l : List α} {j : Nat} (hk : ks.length = j) (hj : j < l.length) : (ks ++ l.drop j)[j]? = some l[j] := by
  subst hk
  rw [List.getElem?_append_right (Nat.le_refl _), Nat.sub_self, List.getElem?_drop, Nat.add_zero, List.getElem?_eq_getElem hj]
theorem mix_same {α : Type} {ks l : List α} {j : Nat} (hj : j < l.length) : ks ++ l.drop j = (ks ++ [l[j]]) ++ l.drop (j + 1) := by
  rw [List.drop_eq_getElem_cons hj, List.append_assoc]
  rfl
theorem mix_len {α : Type} {ks l : List α} {j : Nat} (hk : ks.length = j) (hj : j ≤ l.length) : (ks ++ l.drop j).length = l.length := by
  rw [List.length_append, List.length_drop]; omega
theorem Below.size_le {B : Nat} {w w' : World} (h : Below B w w') : w.heap.size ≤ w'.heap.size := h.size

set_option linter.unusedVariables false in
set_option linter.unusedSimpArgs false in
set_option maxRecDepth 100000 in
set_option maxHeartbeats 4000000 in
theorem linkKeys_any (l : List Cm.Node) (P : Cm.Names) (keys : List Cm.Key) (R : Nat → Prop) (A : Option Addr) (cA mb nm : Nat) (w : World) (hs : SlX ItKey 10 (w.on R) A keys) (h1 : keys.length ≤ cA) (h2 : cA ≤ maxLen) (hk : keys.length ≤ 1000000) (hR : ∀ b, R b → b < w.heap.size) (hm : PlcAt w mb nm (fun k => Cm.refAt l (35 :: k) l.length)) (hst : ∀ K ∈ keys, (Sh.strOf K.v).length ≤ 1000000) :
    Calls Tryd.prog 28 #[.slice A keys.length cA, .map (some mb)] w (LinkKP l P keys R w) := by
  have HCL := Lib.hid (cloneK_any keys R (fun b => b < w.heap.size ∧ ¬ R b) A cA w hs h1 h2 hk hR (fun b h q => q.2 h))
  have HM := Lib.hid hm
  have HST := Lib.hid hst
  have HR := Lib.hid hR
  clear hs h1 h2 hR hm hst
  go_enter Tryd.func28, Tryd.ntmps28
  go_wp2_with fail
  refine HCL.out.mono ?_
  rintro e1 w1 ⟨A1, c1, rfl, hrow, hb1⟩
  have HROW := Lib.hid hrow
  have HB1 := Lib.hid hb1
  obtain ⟨hc1, hc2, _⟩ := hrow.le
  have hc2' := hc2
  unfold maxLen at hc2
  clear hrow hb1 HCL
  go_wp2_with fail
  go_loopw [17] (fun i wr => ∃ (j : Nat) (ks : List Cm.Key), j ≤ keys.length ∧ i = .int .i64 j ∧ ks.length = j ∧ Below w.heap.size w wr ∧ RowX ItKey 48 10 (fun b => b < w.heap.size ∧ ¬ R b) wr w.heap.size A1 c1 (ks ++ keys.drop j) ∧ Cm.linkKeys l P (keys.take j) = .ok ks) (fun i _ => keys.length - (intOf i).toNat)
  case atStart => exact ⟨0, [], by omega, rfl, rfl, HB1.out, HROW.out, rfl⟩
  case round =>
    obtain ⟨j, ks, hj, rfl, hks, hb, hrow, hlk⟩ := hrel
    have HB := Lib.hid hb
    have HRW := Lib.hid hrow
    have HLK := Lib.hid hlk
    have HKS := Lib.hid hks
    clear hb hrow hlk hks HROW HB1
    by_cases hlt : j < keys.length
    · obtain ⟨Rr, g, cs, rfl, hBg, hgl, hRr, hit, hcs, hfz, hset⟩ := RowX.setI (It := ItKey) (fun h => ItKey.mono h) ItKey.len HRW.out (mix_at HKS.out hlt)
      have HSAME := Lib.hid (mix_same (ks := ks) hlt)
      have HMS := Lib.hid (mix_set HKS.out hlt)
      have HNX := Lib.hid (Cm.linkKeys_next hlt HLK.out)
      have hsl := HST.out _ (List.getElem_mem hlt)
      have hjj : (j : Int) < (keys.length : Int) := by omega
      generalize keys[j]'hlt = K at *
      obtain ⟨nm', kv, kids⟩ := K
      obtain ⟨j_1, j_2, j_3, j_4, j_5, j_6, j_7, j_8, j_9, j_a, j_b, j_c, A4, c4, rfl, hv3, hk4, hl4, hm4⟩ := hit.cells
      have HIT := Lib.hid hit
      have d0 : wr.cell? ⟨g, j * 10, none⟩ = _ := hcs 0 _ rfl
      have d1 : wr.cell? ⟨g, j * 10 + 1, none⟩ = _ := hcs 1 _ rfl
      have d2 : wr.cell? ⟨g, j * 10 + 2, none⟩ = _ := hcs 2 _ rfl
      have d3 : wr.cell? ⟨g, j * 10 + 3, none⟩ = _ := hcs 3 _ rfl
      have d4 : wr.cell? ⟨g, j * 10 + 4, none⟩ = _ := hcs 4 _ rfl
      have d5 : wr.cell? ⟨g, j * 10 + 5, none⟩ = _ := hcs 5 _ rfl
      have d6 : wr.cell? ⟨g, j * 10 + 6, none⟩ = _ := hcs 6 _ rfl
      have d7 : wr.cell? ⟨g, j * 10 + 7, none⟩ = _ := hcs 7 _ rfl
      have d8 : wr.cell? ⟨g, j * 10 + 8, none⟩ = _ := hcs 8 _ rfl
      have d9 : wr.cell? ⟨g, j * 10 + 9, none⟩ = _ := hcs 9 _ rfl
      have HSTR := Lib.hid (in_str hv3)
      have HV3 := Lib.hid hv3
      have HSET := Lib.hid hset
      have HRR := Lib.hid hRr
      have HBG := Lib.hid hBg
      have HFZ := Lib.hid hfz
      simp only at hl4 d0 d9 hsl HSTR
      unfold maxLen at hm4
      have hb1 := (Below.refl wr.heap.size wr).alloc (Nat.le_refl _) (.cells #[.string ⟨nm'.toArray⟩, .int .i64 j_1, .bool j_2, .bool j_3, .string ⟨j_4.toArray⟩, .int .i64 j_5, .string ⟨j_6.toArray⟩, .slice j_7 j_8 j_9, .slice j_a j_b j_c, .slice A4 kids.length c4] 48)
      have HB1 := Lib.hid hb1
      have HKB := Lib.hid (Blk.new wr 48 #[.string ⟨nm'.toArray⟩, .int .i64 j_1, .bool j_2, .bool j_3, .string ⟨j_4.toArray⟩, .int .i64 j_5, .string ⟨j_6.toArray⟩, .slice j_7 j_8 j_9, .slice j_a j_b j_c, .slice A4 kids.length c4])
      have HMP := Lib.hid (HM.out.far ((HB.out.trans (hb1.mono HB.out.size)).block _ HM.out.lt))
      have HGL := Lib.hid hgl
      clear hb1 hcs hit hset hRr hBg hfz hv3 hk4
      go_upto_region 5 with (fail)
      have HWK := Lib.hid (show (wr.alloc (.cells #[.string ⟨nm'.toArray⟩, .int .i64 j_1, .bool j_2, .bool j_3, .string ⟨j_4.toArray⟩, .int .i64 j_5, .string ⟨j_6.toArray⟩, .slice j_7 j_8 j_9, .slice j_a j_b j_c, .slice A4 kids.length c4] 48)).heap.size = wr.heap.size + 1 by simp)
      generalize wr.alloc (.cells #[.string ⟨nm'.toArray⟩, .int .i64 j_1, .bool j_2, .bool j_3, .string ⟨j_4.toArray⟩, .int .i64 j_5, .string ⟨j_6.toArray⟩, .slice j_7 j_8 j_9, .slice j_a j_b j_c, .slice A4 kids.length c4] 48) = wk at *
      obtain ⟨gk, hgk⟩ : ∃ gk, wr.heap.size = gk := ⟨_, rfl⟩
      rw [hgk] at HKB ⊢
      have d9k := (le_below HB1.out) _ _ d9
      clear d0 d1 d2 d3 d4 d5 d6 d7 d8 d9 hgl
      obtain ⟨z0, z1, z2, z3, z4, z5, z6, z7, z8, z9⟩ := HKB.out.ten
      have hzl := HKB.out.lt
      by_cases hnm : nm' = [36, 114, 101, 102]
      · have hnb : (nm' == [36, 114, 101, 102]) = true := by simpa using hnm
        have hnb' : (nm' != [36, 114, 101, 102]) = false := by simpa using hnm
        have HLK1 := Lib.hid (show Cm.linkKey l P ⟨nm', kv, kids⟩ = match Cm.refAt l j_6 l.length with
            | none => .bad 12 (P ++ [Cm.kRef])
            | some q => .ok ⟨nm', kv, [([], q)]⟩ by
              unfold Cm.linkKey
              rw [if_pos (show (Cm.Key.mk nm' kv kids).name = Cm.kRef from hnm), show Sh.strOf (Cm.Key.mk nm' kv kids).v = j_6 from HSTR.out]
              rfl)
        have hsj : j_6.length ≤ 1000000 := by rw [← HSTR.out]; exact hsl
        have HCUT := Lib.hid (cutMark_any j_6)
        clear hnm
        go_wp2_with fail
        refine (HCUT.out _).mono ?_
        rintro e2 w2 ⟨hcut, hw2⟩
        rw [hw2]
        clear hw2 w2 HCUT
        rcases hcut with ⟨k, hk6, rfl⟩ | ⟨hk6, rfl⟩
        · obtain ⟨c, hlook, hcq⟩ := HMP.out.look k (by rw [hk6] at hsj; simp at hsj; omega)
          obtain ⟨at_, hat⟩ : ∃ a, Cm.refAt l (35 :: k) l.length = a := ⟨_, rfl⟩
          simp only [hat] at hlook hcq
          have HAT := Lib.hid hat
          have HCQ := Lib.hid hcq
          have HK6 := Lib.hid hk6
          clear hat hcq hk6
          cases at_ with
          | none =>
            have HBAD := Lib.hid (HNX.out.2 12 (P ++ [Cm.kRef]) (by rw [HLK1.out, HK6.out, HAT.out]))
            have HBB := Lib.hid (HB.out.trans (HB1.out.mono HB.out.size))
            clear HK6
            simp only [Option.isSome_none] at hlook
            go_wp2_with fail
            go_ret2
            exact ⟨HBB.out, .inr ⟨HBAD.out, rfl⟩⟩
          | some q =>
            have HOK := Lib.hid (HNX.out.1 ⟨nm', kv, [([], q)]⟩ (by rw [HLK1.out, HK6.out, HAT.out]))
            obtain rfl : c = (q : Int) := HCQ.out q rfl
            clear HK6 HCQ
            simp only [Option.isSome_some] at hlook
            have hfz9 : wk.frozen? ⟨g, j * 10 + 9, none⟩ = false := by
              rw [World.frozen?_of_block (w := wr) (HB1.out.block g HGL.out)]; exact HFZ.out 9
            have hglk : g < wk.heap.size := Nat.lt_of_lt_of_le HGL.out HB1.out.size
            have hb2 := (Below.refl wk.heap.size wk).alloc (Nat.le_refl _) (.cells #[.string ⟨#[]⟩, .int .i64 (q : Int)] 50)
            have hw2 : Below wr.heap.size wr (wk.alloc (.cells #[.string ⟨#[]⟩, .int .i64 (q : Int)] 50)) := HB1.out.trans (hb2.mono HB1.out.size)
            have hkd := Blk.new wk 50 #[.string ⟨#[]⟩, .int .i64 (q : Int)]
            have hrx := HSET.out (wk.alloc (.cells #[.string ⟨#[]⟩, .int .i64 (q : Int)] 50)) 9 (.slice (some ⟨wk.heap.size, 0, none⟩) 1 1) ⟨nm', kv, [([], q)]⟩ (fun b => Rr b ∨ b = wk.heap.size) hw2 (by omega) rfl
              ⟨#[.int .i64 j_1, .bool j_2, .bool j_3, .string ⟨j_4.toArray⟩, .int .i64 j_5, .string ⟨j_6.toArray⟩, .slice j_7 j_8 j_9, .slice j_a j_b j_c], some ⟨wk.heap.size, 0, none⟩, 1, rfl, In.keep (on_keep (fun b h _ => .inl h) (fun b _ h2 => hw2.block b h2)) _ _ HV3.out, (fun i p hi => by
                have hi0 := (List.getElem?_eq_some_iff.1 hi).1
                obtain rfl : i = 0 := by simpa using hi0
                obtain rfl : (([] : List UInt8), q) = p := by simpa using hi
                exact ⟨wk.heap.size, 0, rfl, on_some.2 ⟨.inr rfl, hkd.cell 0⟩, on_some.2 ⟨.inr rfl, hkd.cell 1⟩⟩), Nat.le_refl _, by unfold maxLen; omega⟩
              (fun b hb => by
                rcases hb with hb | hb
                · exact ⟨Nat.lt_of_lt_of_le (HRR.out b hb).1 hw2.size, (HRR.out b hb).2.1, (HRR.out b hb).2.2⟩
                · subst hb
                  have h8 := HB.out.size
                  have h9 := HB1.out.size
                  exact ⟨by simp, fun k => by have := k.1; omega, by omega⟩)
            rw [HMS.out, World.setCell_alloc_past _ _ _ _ hglk] at hrx
            have hbx := (HB.out.trans (hw2.mono HB.out.size)).setCell (p := ⟨g, j * 10 + 9, none⟩) (by show w.heap.size ≤ g; exact HBG.out) (.slice (some ⟨wk.heap.size, 0, none⟩) 1 1)
            rw [World.setCell_alloc_past _ _ _ _ hglk] at hbx
            have HRX := Lib.hid hrx
            have HBX := Lib.hid hbx
            clear hb2 hw2 hkd hrx hbx
            go_wp2_with fail
            go_roundw
            case rel => exact ⟨j + 1, ks ++ [⟨nm', kv, [([], q)]⟩], by omega, by go_num, by rw [List.length_append, HKS.out]; rfl, HBX.out, HRX.out, HOK.out⟩
            case measure => simp [intOf]; omega
        · obtain ⟨c, hlook, _⟩ := HMP.out.look j_6 (by omega)
          have HBAD := Lib.hid (HNX.out.2 12 (P ++ [Cm.kRef]) (by rw [HLK1.out, Cm.plc_none hk6]))
          have HBB := Lib.hid (HB.out.trans (HB1.out.mono HB.out.size))
          obtain ⟨fb, hfb⟩ : ∃ fb, (Cm.refAt l (35 :: j_6) l.length).isSome = fb := ⟨_, rfl⟩
          simp only [hfb] at hlook
          clear hk6 hfb
          go_wp2_with fail
          go_ret2
          exact ⟨HBB.out, .inr ⟨HBAD.out, rfl⟩⟩
      · have hnb : (nm' == [36, 114, 101, 102]) = false := by simpa using hnm
        have hnb' : (nm' != [36, 114, 101, 102]) = true := by simpa using hnm
        have HLX := Lib.hid (HNX.out.1 ⟨nm', kv, kids⟩ (by unfold Cm.linkKey; exact if_neg hnm))
        have HBB := Lib.hid (HB.out.trans (HB1.out.mono HB.out.size))
        have HRX := Lib.hid (RowX.but (It := ItKey) (fun h => ItKey.mono h) HRW.out (But.of (X := fun b => b < w.heap.size ∧ ¬ R b) HB1.out) (fun ad e k => by have := HBG.out; injection e with e; subst e; have := k.1; simp only at this; omega) (fun _ _ k => k))
        clear hnm
        go_wp2_with fail
        go_roundw
        case rel => exact ⟨j + 1, ks ++ [⟨nm', kv, kids⟩], by omega, by go_num, by rw [List.length_append, HKS.out]; rfl, HBB.out, by rw [← HSAME.out]; exact HRX.out, HLX.out⟩
        case measure => simp [intOf]; omega
    · obtain rfl : j = keys.length := by omega
      have HLF := Lib.hid (show Cm.linkKeys l P keys = .ok ks by have := HLK.out; rwa [List.take_length] at this)
      go_wp2_with fail
      have HSX := Lib.hid (show ∃ R' : Nat → Prop, (∀ b, R' b → b < wr.heap.size ∧ (R b ∨ w.heap.size ≤ b)) ∧ SlX ItKey 10 (wr.on R') A1 ks from by
        have hrw := HRW.out
        rw [List.drop_length, List.append_nil] at hrw
        obtain ⟨Rn, hRn, hsx⟩ := RowX.slX (It := ItKey) hrw (fun h => ItKey.mono h) (fun ad e k => by
          obtain ⟨g, rfl, hg, _⟩ := hrw.le.2.2 ad e
          have := k.1
          simp only at this; omega)
        refine ⟨Rn, fun b hb => ⟨(hRn b hb).1, ?_⟩, hsx⟩
        by_cases hr : R b
        · exact .inl hr
        · exact .inr (Nat.le_of_not_lt fun h => (hRn b hb).2 ⟨h, hr⟩))
      go_ret2
      obtain ⟨Rn, hRn, hsx⟩ := HSX.out
      exact ⟨HB.out, .inl ⟨ks, A1, c1, Rn, HLF.out, HKS.out, rfl, hsx, hc1, hc2', hRn⟩⟩

end Go.Proofs.YticpgjhckjhfeaaDoor

