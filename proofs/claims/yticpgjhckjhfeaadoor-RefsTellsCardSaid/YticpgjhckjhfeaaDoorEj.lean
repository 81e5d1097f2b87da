/- The walks of the program's inPlace and comesBack (layer 12). -/
import Derived.Test.YticpgjhckjhfeaaDoorEh
namespace Go.Proofs.YticpgjhckjhfeaaDoor
open Go.RowKit Js Pt

/-- Numbers in a row of the call's own. -/
def NumsAt (W : World) (B : Nat) (A : Option Addr) (c : Nat) (t : List Nat) : Prop := W.ownsRow B 3 1 (.slice A t.length c) t.length (nums12 t)
section
variable {W W' : World} {B B' : Nat} {A : Option Addr} {c : Nat} {t : List Nat} {x : Nat}
theorem NumsAt.nil (W : World) (B : Nat) : NumsAt W B none 0 [] := World.ownsRow_nil W B _ 1
theorem NumsAt.on (h : NumsAt W B A c t) (hb : Below W.heap.size W W') : NumsAt W' B A c t := own_keep h (fun k _ hk => hb.block k hk)
theorem NumsAt.keep (h : NumsAt W B A c t) (hb : ∀ k, B ≤ k → k < W.heap.size → W'.heap[k]? = W.heap[k]?) : NumsAt W' B A c t := own_keep h hb
theorem NumsAt.le (h : NumsAt W B A c t) : t.length ≤ c ∧ c ≤ maxLen ∧ ∀ ad, A = some ad → ∃ g, ad = ⟨g, 0, none⟩ ∧ B ≤ g ∧ g < W.heap.size := by
  have hl := own_le h
  exact ⟨hl.1, hl.2.1, hl.2.2.2⟩
theorem NumsAt.src (h : NumsAt W B A c t) : SrcX W A t.length (nums12 t) := by
  have hl := own_le h
  refine ⟨fun e => (hl.2.2.1 e).1, fun ad e j u hu => ?_⟩
  obtain ⟨g, rfl, _⟩ := hl.2.2.2 ad e
  subst e
  rw [add_at', Nat.zero_add]
  exact own_cell h j u hu
theorem nums12_one (t : List Nat) : ∀ u ∈ nums12 t, u.oneCell' = true := fun u hu => by
  obtain ⟨n, _, rfl⟩ := List.mem_map.1 hu
  rfl
theorem nums12_len (t : List Nat) : (nums12 t).length = t.length * 1 := by simp [nums12]
theorem nums12_app (a b : List Nat) : nums12 (a ++ b) = nums12 a ++ nums12 b := by simp [nums12]
/-- The last one, and the others, in the same block. -/
theorem NumsAt.pop (h : NumsAt W B A c (t ++ [x])) : ∃ g, A = some ⟨g, 0, none⟩ ∧ B ≤ g ∧ g < W.heap.size ∧ W.cell? ⟨g, t.length, none⟩ = some (.int .i64 (x : Int)) ∧ t.length + 1 ≤ c ∧ NumsAt W B (some ⟨g, 0, none⟩) c t := by
  have hl := h.le
  have h0 := h
  obtain ⟨h1, ⟨_, h2⟩ | ⟨g, cap, cur, e, hb, hc, q1, q2, q3, q4⟩⟩ := h0
  · rw [List.length_append] at h2; simp at h2
  · injection e with e1 e2 e3
    subst e1 e3
    have hlt : g < W.heap.size := by
      rcases Nat.lt_or_ge g W.heap.size with k | k
      · exact k
      · rw [Array.getElem?_eq_none k] at hc; cases hc
    have hn : (t ++ [x]).length = t.length + 1 := by simp
    rw [hn] at q1
    refine ⟨g, rfl, hb, hlt, ?_, q1, by rw [nums12_len], .inr ⟨g, c, cur, rfl, hb, hc, by omega, q2, q3, ?_⟩⟩
    · refine own_cell h t.length _ ?_
      rw [nums12_app, List.getElem?_append_right (by rw [nums12_len]; omega), nums12_len]
      simp [nums12]
    · have := congrArg (List.take (t.length * 1)) q4
      rw [List.take_take, hn, Nat.min_eq_left (by omega)] at this
      rw [this, nums12_app, List.take_append_of_le_length (by rw [nums12_len]; omega), List.take_of_length_le (by rw [nums12_len]; omega)]
end
theorem Cm.Leads.lt {l : List Cm.Node} (hi : Cm.Inside l) {a b : Nat} (h : Cm.Leads l a b) : b < l.length := by
  cases h with
  | one s => exact hi.next s
  | more _ s => exact hi.next s

set_option linter.unusedVariables false in
set_option linter.unusedSimpArgs false in
set_option maxRecDepth 100000 in
set_option maxHeartbeats 4000000 in
theorem inPlace_any (tx : List UInt8) (nall npass : Bool) (keys : List Cm.Key) (A2 : Option Addr) (c2 : Nat) (w : World) (hk : SlKey w.cell? A2 keys) (h1 : keys.length ≤ c2) (h2 : c2 ≤ maxLen) (h3 : keys.length ≤ 1000000) (h4 : ∀ K ∈ keys, K.kids.length ≤ 200) :
    Calls Tryd.prog 30 #[.agg #[.string ⟨tx.toArray⟩, .bool nall, .bool npass, .slice A2 keys.length c2]] w fun e w' => ∃ (A : Option Addr) (c : Nat), e = .returned (.slice A (keys.flatMap Cm.keyNexts).length c) ∧ NumsAt w' w.heap.size A c (keys.flatMap Cm.keyNexts) ∧ Below w.heap.size w w' := by
  have HK := Lib.hid hk
  have H4 := Lib.hid h4
  unfold maxLen at h2
  clear hk h4
  have HB0 := Lib.hid ((Below.refl w.heap.size w).alloc (Nat.le_refl _) (.cells #[.string ⟨tx.toArray⟩, .bool nall, .bool npass, .slice A2 keys.length c2] 45))
  have HX0 := Lib.hid (Blk.new w 45 #[.string ⟨tx.toArray⟩, .bool nall, .bool npass, .slice A2 keys.length c2])
  have HZ := Lib.hid (NumsAt.nil (w.alloc (.cells #[.string ⟨tx.toArray⟩, .bool nall, .bool npass, .slice A2 keys.length c2] 45)) w.heap.size)
  go_enter Tryd.func30, Tryd.ntmps30
  go_upto_region 1 with (fail)
  generalize w.alloc (.cells #[.string ⟨tx.toArray⟩, .bool nall, .bool npass, .slice A2 keys.length c2] 45) = w0 at *
  have hx3 := HX0.out.cell 3
  have hxl := HX0.out.lt
  go_wp2_with fail
  go_loopw [3, 11] (fun o3 i11 wr => ∃ (k : Nat) (A3 : Option Addr) (c3 : Nat) (t : List Nat), o3 = .slice A3 t.length c3 ∧ i11 = .int .i64 k ∧ k ≤ keys.length ∧ t = (keys.take k).flatMap Cm.keyNexts ∧ Below w.heap.size w wr ∧ NumsAt wr w.heap.size A3 c3 t) (fun _ i11 _ => keys.length - (intOf i11).toNat)
  case atStart => exact ⟨0, none, 0, [], rfl, rfl, Nat.zero_le _, rfl, HB0.out, HZ.out⟩
  case round =>
    obtain ⟨k, A3, c3, t, rfl, rfl, hkq, ht, hb, hnu⟩ := hrel
    have HB := Lib.hid hb
    have HNU := Lib.hid hnu
    have HT := Lib.hid ht
    clear hb hnu ht HZ HB0 HX0 hx3 hxl
    by_cases hkl : k < keys.length
    · obtain ⟨g3, o3, cs3, rfl, hi3, hc3⟩ := HK.out k _ (List.getElem?_eq_getElem hkl)
      obtain ⟨j_1, j_2, j_3, j_4, j_5, j_6, j_7, j_8, j_9, j_a, j_b, j_c, A4, c4, rfl, _, hk4, hl4, hm4⟩ := hi3.cells
      have d0 : wr.cell? ⟨g3, o3 + k * 10, none⟩ = _ := (le_below HB.out) _ _ (hc3 0 _ rfl)
      have d1 : wr.cell? ⟨g3, o3 + k * 10 + 1, none⟩ = _ := (le_below HB.out) _ _ (hc3 1 _ rfl)
      have d2 : wr.cell? ⟨g3, o3 + k * 10 + 2, none⟩ = _ := (le_below HB.out) _ _ (hc3 2 _ rfl)
      have d3 : wr.cell? ⟨g3, o3 + k * 10 + 3, none⟩ = _ := (le_below HB.out) _ _ (hc3 3 _ rfl)
      have d4 : wr.cell? ⟨g3, o3 + k * 10 + 4, none⟩ = _ := (le_below HB.out) _ _ (hc3 4 _ rfl)
      have d5 : wr.cell? ⟨g3, o3 + k * 10 + 5, none⟩ = _ := (le_below HB.out) _ _ (hc3 5 _ rfl)
      have d6 : wr.cell? ⟨g3, o3 + k * 10 + 6, none⟩ = _ := (le_below HB.out) _ _ (hc3 6 _ rfl)
      have d7 : wr.cell? ⟨g3, o3 + k * 10 + 7, none⟩ = _ := (le_below HB.out) _ _ (hc3 7 _ rfl)
      have d8 : wr.cell? ⟨g3, o3 + k * 10 + 8, none⟩ = _ := (le_below HB.out) _ _ (hc3 8 _ rfl)
      have d9 : wr.cell? ⟨g3, o3 + k * 10 + 9, none⟩ = _ := (le_below HB.out) _ _ (hc3 9 _ rfl)
      have HK4 := Lib.hid hk4
      have HNT := Lib.hid (Cm.nexts_take (N := ⟨[], false, false, keys⟩) (List.getElem?_eq_getElem hkl))
      have h4k := H4.out _ (List.getElem_mem hkl)
      have hkqi : (k : Int) < (keys.length : Int) := by omega
      have hgl3 := World.block_lt_of_cell? _ _ d0
      have HFL := Lib.hid (show t.length ≤ 200 * k by
        rw [HT.out]
        have := Cm.flat_few (f := Cm.keyNexts) (n := 200) (keys.take k) (fun K hK => Cm.keyNexts_few (H4.out K (List.mem_of_mem_take hK)))
        rw [List.length_take] at this
        have h5 : min k keys.length = k := by omega
        rw [h5] at this
        omega)
      clear hi3 hc3 hk4
      generalize keys[k]'hkl = K at *
      obtain ⟨nm, kv, kids⟩ := K
      simp only at hl4 d0 d9 HK4 h4k
      unfold maxLen at hm4
      obtain ⟨pb, hpb⟩ : ∃ pb, Cm.place nm = pb := ⟨_, rfl⟩
      have HPL := Lib.hid (show pb = ((nm == [36, 114, 101, 102]) || ((nm == [97, 108, 108, 79, 102]) || ((nm == [97, 110, 121, 79, 102]) || ((nm == [111, 110, 101, 79, 102]) || ((nm == [110, 111, 116])))))) by rw [← hpb]; simp only [Cm.place, Cm.placeNames, Cm.kRef, List.contains_cons, List.contains_nil, Bool.or_false])
      have HKN := Lib.hid (show Cm.keyNexts ⟨nm, kv, kids⟩ = if pb = true then kids.map (·.2) else [] by unfold Cm.keyNexts; rw [show Cm.place (Cm.Key.mk nm kv kids).name = pb from hpb])
      have HNX := Lib.hid (show (keys.take (k + 1)).flatMap Cm.keyNexts = t ++ (if pb = true then kids.map (·.2) else []) by rw [HNT.out, HKN.out, HT.out])
      clear hpb HNT HKN
      have hb1 := (Below.refl wr.heap.size wr).alloc (Nat.le_refl _) (.cells #[.string ⟨nm.toArray⟩, .int .i64 j_1, .bool j_2, .bool j_3, .string ⟨j_4.toArray⟩, .int .i64 j_5, .string ⟨j_6.toArray⟩, .slice j_7 j_8 j_9, .slice j_a j_b j_c, .slice A4 kids.length c4] 48)
      have HB1 := Lib.hid (HB.out.trans (hb1.mono HB.out.size))
      have HN1 := Lib.hid (HNU.out.on hb1)
      have HKB := Lib.hid (Blk.new wr 48 #[.string ⟨nm.toArray⟩, .int .i64 j_1, .bool j_2, .bool j_3, .string ⟨j_4.toArray⟩, .int .i64 j_5, .string ⟨j_6.toArray⟩, .slice j_7 j_8 j_9, .slice j_a j_b j_c, .slice A4 kids.length c4])
      clear hb1 HNU HT HB
      go_upto_region 5 with (fail)
      generalize wr.alloc (.cells #[.string ⟨nm.toArray⟩, .int .i64 j_1, .bool j_2, .bool j_3, .string ⟨j_4.toArray⟩, .int .i64 j_5, .string ⟨j_6.toArray⟩, .slice j_7 j_8 j_9, .slice j_a j_b j_c, .slice A4 kids.length c4] 48) = wk at *
      generalize wr.heap.size = gk at *
      clear d0 d1 d2 d3 d4 d5 d6 d7 d8 d9 hgl3
      obtain ⟨z0, z1, z2, z3, z4, z5, z6, z7, z8, z9⟩ := HKB.out.ten
      have hzl := HKB.out.lt
      go_upto_if 17 with fail
      go_cut [17] from 18 to 22 (fun v17 wc => v17 = .bool pb ∧ wc = wk)
      case first =>
        go_wp2_with fail
        · have HV := Lib.hid (show pb = true by rw [HPL.out, show (nm == [36, 114, 101, 102]) = true by assumption]; simp)
          go_meet
          case rel => exact ⟨by rw [HV.out], rfl⟩
        · have HV := Lib.hid (show pb = true by rw [HPL.out, show (nm == [97, 108, 108, 79, 102]) = true by assumption]; simp)
          go_meet
          case rel => exact ⟨by rw [HV.out], rfl⟩
        · have HV := Lib.hid (show pb = true by rw [HPL.out, show (nm == [97, 110, 121, 79, 102]) = true by assumption]; simp)
          go_meet
          case rel => exact ⟨by rw [HV.out], rfl⟩
        · have HV := Lib.hid (show pb = true by rw [HPL.out, show (nm == [111, 110, 101, 79, 102]) = true by assumption]; simp)
          go_meet
          case rel => exact ⟨by rw [HV.out], rfl⟩
        · have HV := Lib.hid (show pb = (nm == [110, 111, 116]) by rw [HPL.out, show (nm == [36, 114, 101, 102]) = false by assumption, show (nm == [97, 108, 108, 79, 102]) = false by assumption, show (nm == [97, 110, 121, 79, 102]) = false by assumption, show (nm == [111, 110, 101, 79, 102]) = false by assumption]; rfl)
          go_meet
          case rel => exact ⟨by rw [HV.out], rfl⟩
      case rest =>
      obtain ⟨rfl, rfl⟩ := hcut
      cases pb with
      | false =>
        go_wp2_with fail
        go_roundw
        case rel => exact ⟨k + 1, A3, c3, t, rfl, by go_num, by omega, by rw [HNX.out]; simp, HB1.out, HN1.out⟩
        case measure => simp [intOf]; omega
      | true =>
        obtain ⟨ws, hws⟩ : ∃ W, W = wc := ⟨_, rfl⟩
        subst hws
        go_wp2_with fail
        go_loopw [3, 26] (fun o3 i26 wr => ∃ (q : Nat) (A5 : Option Addr) (c5 : Nat) (t5 : List Nat), o3 = .slice A5 t5.length c5 ∧ i26 = .int .i64 q ∧ q ≤ kids.length ∧ t5 = t ++ (kids.take q).map (·.2) ∧ Below w.heap.size w wr ∧ NumsAt wr w.heap.size A5 c5 t5) (fun _ i26 _ => kids.length - (intOf i26).toNat)
        case atStart => exact ⟨0, A3, c3, t, rfl, rfl, Nat.zero_le _, by simp, HB1.out, HN1.out⟩
        case round =>
          obtain ⟨q, A5, c5, t5, rfl, rfl, hq, ht5, hb5, hn5⟩ := hrel
          have HB5 := Lib.hid hb5
          have HN5 := Lib.hid hn5
          have HT5 := Lib.hid ht5
          clear hb5 hn5 ht5 z0 z1 z2 z3 z4 z5 z6 z7 z8 z9 hzl
          by_cases hql : q < kids.length
          · obtain ⟨g5, o5, rfl, h50, h51⟩ := HK4.out q _ (List.getElem?_eq_getElem hql)
            have s0 := (le_below HB5.out) _ _ h50
            have s1 := (le_below HB5.out) _ _ h51
            have HTK := Lib.hid (show t ++ (kids.take (q + 1)).map (·.2) = t5 ++ [(kids[q]).2] by rw [List.take_succ_eq_append_getElem hql, List.map_append, HT5.out, List.append_assoc]; rfl)
            have hqi : (q : Int) < (kids.length : Int) := by omega
            have hgl5 := World.block_lt_of_cell? _ _ s0
            have hfl5 : t5.length ≤ 200 * k + 200 := by rw [HT5.out, List.length_append, List.length_map, List.length_take]; have := HFL.out; omega
            clear h50 h51
            generalize kids[q]'hql = p5 at *
            obtain ⟨kk, kn⟩ := p5
            simp only at s0 s1 HTK
            have hb6 := (Below.refl wr.heap.size wr).alloc (Nat.le_refl _) (.cells #[.string ⟨kk.toArray⟩, .int .i64 (kn : Int)] 50)
            have HB6 := Lib.hid (HB5.out.trans (hb6.mono HB5.out.size))
            have HN6 := Lib.hid (HN5.out.on hb6)
            have HKD := Lib.hid (Blk.new wr 50 #[.string ⟨kk.toArray⟩, .int .i64 (kn : Int)])
            clear hb6
            go_upto_region 14 with (fail)
            generalize wr.alloc (.cells #[.string ⟨kk.toArray⟩, .int .i64 (kn : Int)] 50) = w6 at *
            generalize wr.heap.size = g6 at *
            clear s0 s1 hgl5
            have r1 := HKD.out.cell 1
            have hrl := HKD.out.lt
            have hb7 := (Below.refl w6.heap.size w6).alloc (Nat.le_refl _) (.cells #[.int .i64 (kn : Int)] 3)
            have HB7 := Lib.hid (HB6.out.trans (hb7.mono HB6.out.size))
            have HN7 := Lib.hid (HN6.out.on hb7)
            have HNW := Lib.hid (Blk.new w6 3 #[.int .i64 (kn : Int)])
            have HSR := Lib.hid (show SrcX (w6.alloc (.cells #[.int .i64 (kn : Int)] 3)) (some ⟨w6.heap.size, 0, none⟩) 1 (nums12 [kn]) from ⟨(fun e => by cases e), fun ad e j u hu => by injection e with e; subst e; exact World.news_of_block HNW.out j u hu⟩)
            obtain ⟨i0, hi0, hz0, hz1, hz2⟩ := infoInt12
            clear hb7
            go_wp2_with (at_builtin; refine wpList_append_srcx _ rfl _ _ _ rfl w.heap.size 3 i0 _ 1 8 Tryd.underlying69 hi0 hz0 hz1 hz2 rfl (by decide) (.slice A5 t5.length c5) t5.length (nums12 t5) rfl HN7.out (some ⟨w6.heap.size, 0, none⟩) 1 1 (nums12 [kn]) rfl rfl HSR.out (nums12_one _) (by unfold maxLen; omega) (by omega) (by have := HB7.out.size; exact this) (t5.length + 1) rfl ?_; intro A8 c8 w8 hown hgr; have HOWN := Lib.hid hown; have HGR := Lib.hid hgr; clear hown hgr)
            have HB8 := Lib.hid (HB7.out.grown HGR.out HB7.out.size (fun b hb => by
              cases A5 with
              | none => cases hb
              | some ad =>
                obtain ⟨g, rfl, hg, _⟩ := HN5.out.le.2.2 ad rfl
                have : b = g := by simpa [Value.ownBlock] using hb.symm
                omega))
            have HN8 := Lib.hid (show NumsAt w8 w.heap.size A8 c8 (t5 ++ [kn]) by
              unfold NumsAt
              rw [nums12_app, List.length_append, List.length_singleton]
              exact HOWN.out)
            go_roundw
            case rel => exact ⟨q + 1, A8, c8, t5 ++ [kn], by rw [List.length_append]; rfl, by go_num, by omega, HTK.out.symm, HB8.out, HN8.out⟩
            case measure => simp [intOf]; omega
          · obtain rfl : q = kids.length := by omega
            go_wp2_with fail
            go_roundw
            case rel => exact ⟨k + 1, A5, c5, t5, rfl, by go_num, by omega, by rw [HNX.out, HT5.out, List.take_length]; rfl, HB5.out, HN5.out⟩
            case measure => simp [intOf]; omega
    · obtain rfl : k = keys.length := by omega
      have HTT := Lib.hid (show keys.flatMap Cm.keyNexts = t by rw [HT.out, List.take_length])
      go_wp2_with fail
      go_ret
      exact ⟨A3, c3, by rw [HTT.out]; rfl, by rw [HTT.out]; exact HNU.out, HB.out⟩

set_option linter.unusedVariables false in
set_option linter.unusedSimpArgs false in
set_option maxRecDepth 100000 in
set_option maxHeartbeats 4000000 in
theorem comesBack_any (l : List Cm.Node) (A : Option Addr) (cA i : Nat) (w : World) (hs : SlN w.cell? A l) (h1 : l.length ≤ cA) (h2 : cA ≤ maxLen) (hl : l.length ≤ 200) (hin : Cm.Inside l) (hi : i < l.length) (hk : ∀ N ∈ l, N.keys.length ≤ 1000000 ∧ ∀ K ∈ N.keys, K.kids.length ≤ 200) :
    Calls Tryd.prog 17 #[.slice A l.length cA, .int .i64 i] w fun e w' => ∃ b : Bool, e = .returned (.bool b) ∧ (b = true ↔ Cm.Leads l i i) ∧ Below w.heap.size w w' := by
  have HS := Lib.hid hs
  have HIN := Lib.hid hin
  have HKF := Lib.hid hk
  unfold maxLen at h2
  obtain ⟨i0, hi0, hz0, hz1, hz2⟩ := infoBool12
  have hmk : ∀ W : World, (Instr.makeSlice 51 (.int .i64 (l.length : Int)) (.int .i64 (l.length : Int))).run Tryd.prog W = .ok (.slice (some ⟨W.heap.size, 0, none⟩) l.length l.length) (W.alloc (.cells (marks (List.replicate l.length false)) 4)) := fun W => by
    have := run_make (P := Tryd.prog) W 51 4 i0 (.bool false) Tryd.underlying51 hi0 hz0 .i64 .i64 l.length l.length (by omega) (Int.le_refl _) (by rw [hz2]; omega) (by omega)
    rw [hz1] at this
    simp only [Int.toNat_natCast] at this
    rw [show (Value.bool false).cells = #[.bool false] from rfl, madeBools] at this
    exact this
  have HB0 := Lib.hid ((Below.refl w.heap.size w).alloc (Nat.le_refl _) (.cells (marks (List.replicate l.length false)) 4))
  have HO0 := Lib.hid (show OutAt (w.alloc (.cells (marks (List.replicate l.length false)) 4)) w.heap.size (List.replicate l.length false) from Blk.new w _ _)
  obtain ⟨g, o, cs, rfl, ⟨A2, c2, rfl, hk2, hl2, hm2⟩, hcN⟩ := HS.out i _ (List.getElem?_eq_getElem hi)
  have HFW := Lib.hid (Cm.nexts_few (HKF.out _ (List.getElem_mem hi)).1 (HKF.out _ (List.getElem_mem hi)).2)
  have HDF := Lib.hid (Cm.Dfs.start (List.getElem?_eq_getElem hi) HFW.out)
  have HIP := Lib.hid (inPlace_any (text l[i].at_) l[i].all l[i].pass l[i].keys A2 c2 (w.alloc (.cells (marks (List.replicate l.length false)) 4)) (hk2.keep (le_below HB0.out)) hl2 hm2 (HKF.out _ (List.getElem_mem hi)).1 (HKF.out _ (List.getElem_mem hi)).2)
  have e0 := (le_below HB0.out) _ _ (hcN 0 _ rfl)
  have e1 := (le_below HB0.out) _ _ (hcN 1 _ rfl)
  have e2 := (le_below HB0.out) _ _ (hcN 2 _ rfl)
  have e3 := (le_below HB0.out) _ _ (hcN 3 _ rfl)
  have hgl := World.block_lt_of_cell? _ _ e0
  have hii : (i : Int) < (l.length : Int) := by omega
  simp only [Nat.add_zero] at e0
  clear hs hin hk hcN hk2
  go_enter Tryd.func17, Tryd.ntmps17
  go_upto_region 2 with (fail)
  generalize w.alloc (.cells (marks (List.replicate l.length false)) 4) = w1 at *
  obtain ⟨go, hgo⟩ : ∃ go, w.heap.size = go := ⟨_, rfl⟩
  have HGO := Lib.hid hgo
  have HO1 := Lib.hid (show OutAt w1 go (List.replicate l.length false) by rw [← hgo]; exact HO0.out)
  rw [hgo]
  clear HO0 hmk hi0 hz0 hz1 hz2 hgo
  go_wp2_with fail
  refine HIP.out.mono ?_
  rintro ex w2 ⟨A6, c6, rfl, hnu, hb2⟩
  have HN2 := Lib.hid (show NumsAt w2 (go + 1) A6 c6 (Cm.nexts l[i]) from by
    have h8 : NumsAt w2 w1.heap.size A6 c6 (Cm.nexts l[i]) := hnu
    have h9 := Blk.lt HO1.out
    obtain ⟨q1, q2⟩ := h8
    refine ⟨q1, q2.imp id ?_⟩
    rintro ⟨g, cap, cur, r1, r2, r3⟩
    exact ⟨g, cap, cur, r1, by omega, r3⟩)
  have HB2 := Lib.hid (HB0.out.trans (hb2.mono HB0.out.size))
  have HO2 := Lib.hid (show OutAt w2 go (List.replicate l.length false) from Blk.on HO1.out hb2)
  rw [show (l[i].keys.flatMap Cm.keyNexts) = Cm.nexts l[i] from rfl]
  clear hnu hb2 HIP HO1 e0 e1 e2 e3 hgl HB0
  generalize Cm.nexts l[i] = t0 at *
  go_wp2_with fail
  go_loopw [6] (fun t wr => ∃ (A6 : Option Addr) (c6 : Nat) (todo : List Nat) (out : List Bool), t = .slice A6 todo.length c6 ∧ Cm.Dfs l i out todo ∧ NumsAt wr (go + 1) A6 c6 todo ∧ OutAt wr go out ∧ Below w.heap.size w wr) (fun t wr => lenOf t + 200000001 * falsesAt wr go)
  case atStart => exact ⟨A6, c6, t0, _, rfl, HDF.out, HN2.out, HO2.out, HB2.out⟩
  case round =>
    obtain ⟨A6, c6, todo, out, rfl, hdf, hnu, ho, hb⟩ := hrel
    have HD := Lib.hid hdf
    have HN := Lib.hid hnu
    have HO := Lib.hid ho
    have HB := Lib.hid hb
    clear hdf hnu ho hb HDF HN2 HO2 HB2
    rcases List.eq_nil_or_concat todo with rfl | ⟨r, x, rfl⟩
    · go_wp2_with fail
      go_ret
      exact ⟨false, rfl, ⟨(fun h => by cases h), fun h => absurd h HD.out.fin⟩, HB.out⟩
    · simp only [List.concat_eq_append] at *
      have HLD := Lib.hid (HD.out.led x (by simp))
      obtain ⟨g6, rfl, hg6, hg6l, hcx, hrc, hnr⟩ := HN.out.pop
      have HNR := Lib.hid hnr
      have hxl := Cm.Leads.lt HIN.out HLD.out
      have hxi : (x : Int) < (l.length : Int) := by omega
      have HRL := Lib.hid (show r.length ≤ 50000000000 by have := HD.out.few; rw [List.length_append, List.length_singleton] at this; omega)
      rw [List.length_append, List.length_singleton]
      obtain ⟨N, hN⟩ : ∃ N, N = r.length := ⟨_, rfl⟩
      rw [← hN] at hcx hrc ⊢
      have HNL := Lib.hid hN
      have hidx : (N : Int) < (N : Int) + 1 := by omega
      have hnc : (N : Int) ≤ (c6 : Int) := by omega
      have hc6 := HN.out.le.2.1
      unfold maxLen at hc6
      clear hnr hN
      by_cases hxe : x = i
      · have hxb : ((x : Int) == (i : Int)) = true := by simp; omega
        have HV := Lib.hid (show Cm.Leads l i i by rw [hxe] at HLD; exact HLD.out)
        clear hxe
        go_wp2_with fail
        go_ret
        exact ⟨true, rfl, ⟨fun _ => HV.out, fun _ => rfl⟩, HB.out⟩
      · have hxb : ((x : Int) == (i : Int)) = false := by simp; omega
        have HXE := Lib.hid hxe
        obtain ⟨b, hb⟩ : ∃ b, out[x]? = some b := ⟨_, List.getElem?_eq_getElem (by rw [HD.out.len]; exact hxl)⟩
        have hoc := HO.out.cell hb
        have hol := Blk.lt HO.out
        have hofz := Blk.frozen HO.out x
        have HBB := Lib.hid hb
        have HFO := Lib.hid (OutAt.falses HO.out)
        clear hxe hb
        cases b with
        | true =>
          have HD2 := Lib.hid (HD.out.old HBB.out)
          go_wp2_with fail
          go_roundw
          case rel => exact ⟨some ⟨g6, 0, none⟩, c6, r, out, by rw [← HNL.out], HD2.out, HNR.out, HO.out, HB.out⟩
          case measure => simp [lenOf]
        | false =>
          obtain ⟨g7, o7, cs7, hA7, ⟨A7, c7, rfl, hk7, hl7, hm7⟩, hc7⟩ := HS.out x _ (List.getElem?_eq_getElem hxl)
          injection hA7 with hA7
          injection hA7 with e71 e72 _
          subst e71 e72
          obtain ⟨w5, hw5⟩ : ∃ W, W = wr.setCell ⟨go, x, none⟩ (.bool true) := ⟨_, rfl⟩
          have hb5 : Below w.heap.size w w5 := by rw [hw5]; exact HB.out.setCell (p := ⟨go, x, none⟩) (by show w.heap.size ≤ go; rw [HGO.out]; exact Nat.le_refl _) _
          have HO5 := Lib.hid (show OutAt w5 go (out.set x true) by rw [hw5]; exact HO.out.mark x)
          have HN5 := Lib.hid (show NumsAt w5 (go + 1) (some ⟨g6, 0, none⟩) c6 r from HNR.out.keep (fun k hk _ => by rw [hw5]; exact Below.heap_setCell wr ⟨go, x, none⟩ _ k (by show k ≠ go; omega)))
          have HF5 := Lib.hid (Cm.nexts_few (HKF.out _ (List.getElem_mem hxl)).1 (HKF.out _ (List.getElem_mem hxl)).2)
          have HD5 := Lib.hid (HD.out.mark (List.getElem?_eq_getElem hxl) HXE.out HBB.out HF5.out)
          have HIP5 := Lib.hid (inPlace_any (text l[x].at_) l[x].all l[x].pass l[x].keys A7 c7 w5 (hk7.keep (le_below hb5)) hl7 hm7 (HKF.out _ (List.getElem_mem hxl)).1 (HKF.out _ (List.getElem_mem hxl)).2)
          have HFS := Lib.hid (Cm.falses_set out x HBB.out)
          have y0 := (le_below hb5) _ _ (hc7 0 _ rfl)
          have y1 := (le_below hb5) _ _ (hc7 1 _ rfl)
          have y2 := (le_below hb5) _ _ (hc7 2 _ rfl)
          have y3 := (le_below hb5) _ _ (hc7 3 _ rfl)
          have hyl := World.block_lt_of_cell? _ _ y0
          have HB5 := Lib.hid hb5
          have HW5 := Lib.hid hw5
          simp only [Nat.add_zero] at y0
          clear hc7 hk7 hb5 hw5
          go_upto_region 11 with (fail)
          rw [← HW5.out]
          clear hcx hoc hol hofz HW5
          go_wp2_with fail
          refine HIP5.out.mono ?_
          rintro ey w6 ⟨A8, c8, rfl, hn8, hb8⟩
          have HN8 := Lib.hid (show NumsAt w6 w5.heap.size A8 c8 (Cm.nexts l[x]) from hn8)
          have HB6 := Lib.hid (HB5.out.trans (hb8.mono HB5.out.size))
          have HN6 := Lib.hid (HN5.out.on hb8)
          have HO6 := Lib.hid (show OutAt w6 go (out.set x true) from Blk.on HO5.out hb8)
          rw [show (l[x].keys.flatMap Cm.keyNexts) = Cm.nexts l[x] from rfl]
          have hfl : r.length + (Cm.nexts l[x]).length ≤ 50000000000 := by
            have := HD5.out.few
            rw [List.length_append] at this
            omega
          clear hn8 hb8 HIP5 y0 y1 y2 y3 hyl
          generalize Cm.nexts l[x] = t8 at *
          have HS8 := Lib.hid HN8.out.src
          have HGS := Lib.hid (Nat.le_trans (Nat.succ_le_of_lt (Blk.lt HO6.out)) (Nat.le_refl _))
          obtain ⟨i1, hj0, hy0, hy1, hy2⟩ := infoInt12
          obtain ⟨M, hM⟩ : ∃ M, M = t8.length := ⟨_, rfl⟩
          have hn1 : (nums12 t8).length = M * 1 := by rw [nums12_len, hM]
          have hs1 : SrcX w6 A8 M (nums12 t8) := by rw [hM]; exact HS8.out
          have hq1 : w6.ownsRow (go + 1) 3 1 (.slice (some ⟨g6, 0, none⟩) N c6) N (nums12 r) := by rw [HNL.out]; exact HN6.out
          have hq2 : N + M ≤ maxLen := by rw [HNL.out, hM]; unfold maxLen; omega
          have hq3 : (N + M) * 8 ≤ 140737488355328 := by rw [HNL.out, hM]; omega
          have HQ0 := Lib.hid hn1
          have HQ1 := Lib.hid hs1
          have HQ2 := Lib.hid hq1
          have HQ3 := Lib.hid hq2
          have HQ4 := Lib.hid hq3
          rw [← hM]
          have HMM := Lib.hid hM
          clear hn1 hs1 hq1 hq2 hq3 hfl hM
          go_wp2_with (at_builtin; refine wpList_append_srcx _ rfl _ _ _ rfl (go + 1) 3 i1 _ 1 8 Tryd.underlying69 hj0 hy0 hy1 hy2 rfl (by decide) (.slice (some ⟨g6, 0, none⟩) N c6) N (nums12 r) rfl HQ2.out A8 M c8 (nums12 t8) rfl HQ0.out HQ1.out (nums12_one _) HQ3.out HQ4.out HGS.out (N + M) rfl ?_; intro A9 c9 w9 hown hgr; have HOWN := Lib.hid hown; have HGR := Lib.hid hgr; clear hown hgr)
          have HN9 := Lib.hid (show NumsAt w9 (go + 1) A9 c9 (r ++ t8) by
            unfold NumsAt
            rw [nums12_app, List.length_append, ← HNL.out, ← HMM.out]
            exact HOWN.out)
          have HB9 := Lib.hid (HB6.out.grown HGR.out HB6.out.size (fun q hq => by
            have : q = g6 := by simpa [Value.ownBlock] using hq.symm
            have := HGO.out
            omega))
          have HO9 := Lib.hid (show OutAt w9 go (out.set x true) from (HGR.out.block go (Blk.lt HO6.out) (by simp [Value.ownBlock]; omega)).trans HO6.out)
          go_roundw
          case rel => exact ⟨A9, c9, r ++ t8, out.set x true, by rw [List.length_append, ← HNL.out, ← HMM.out], HD5.out, HN9.out, HO9.out, HB9.out⟩
          case measure =>
            rw [OutAt.falses HO9.out, HFO.out]
            have h8 := HFS.out
            have h9 := HF5.out
            have h7 := HMM.out
            show N + M + _ < N + 1 + _
            omega

end Go.Proofs.YticpgjhckjhfeaaDoor

