/- The laws of layer 4 (parse): ParseBlanks. (By gen_blanks.py.) -/
import Derived.Test.YtnnklbfpgmndoaaGreatDoorYn
namespace Go.Proofs.YtnnklbfpgmndoaaGreatDoor
open Go.RowKit Js

theorem spotat_on {w w' : World} {g : Nat} {a k : Int} (h : SpotAt w g a k) (hb : Below w.heap.size w w') : SpotAt w' g a k := by
  obtain ⟨h1, h2⟩ := h
  have hl := World.block_lt_of_cell? w _ h1
  exact ⟨(hb.cell (p := ⟨g, 0, none⟩) hl).trans h1, (hb.cell (p := ⟨g, 1, none⟩) hl).trans h2⟩
theorem pz_ok {l : List UInt8} {v : Vl} {u : List UInt8} (h : Ps.parse l = .ok v u) (hl : l.length ≤ 100000) (w : World) (hT : Tabs w) :
    Calls Tryz.prog 7 #[.string ⟨l.toArray⟩] w fun e w' => ∃ x, e = .returned (.tuple #[x, .nilIface]) ∧ v.In w'.cell? x ∧ Below w.heap.size w w' := by
  refine (pz_told ⟨l.toArray⟩ (by rw [Lib.size_mk]; exact hl) w hT).mono ?_
  rintro e w' ⟨v', x, ev, c, p, rfl, hx, hb, _, hr⟩
  rw [show (⟨l.toArray⟩ : ByteArray).data.toList = l from rfl, h] at hr
  obtain ⟨rfl, rfl, _, _⟩ := hr
  exact ⟨x, rfl, hx, hb⟩
theorem pz_bad {l : List UInt8} {c n : Nat} (h : Ps.parse l = .bad c n) (hl : l.length ≤ 100000) (w : World) (hT : Tabs w) :
    Calls Tryz.prog 7 #[.string ⟨l.toArray⟩] w fun e w' => ∃ x g, e = .returned (.tuple #[x, .iface 47 (.pointer (some ⟨g, 0, none⟩))]) ∧ Ps.mkN.In w'.cell? x ∧ Below w.heap.size w w' ∧ SpotAt w' g ((l.length : Int) - n) c := by
  refine (pz_told ⟨l.toArray⟩ (by rw [Lib.size_mk]; exact hl) w hT).mono ?_
  rintro e w' ⟨v', x, ev, c', p, rfl, hx, hb, he, hr⟩
  rw [show (⟨l.toArray⟩ : ByteArray).data.toList = l from rfl, h] at hr
  obtain ⟨rfl, ⟨g, rfl⟩, rfl, rfl⟩ := hr
  rcases he with ⟨h1, _⟩ | ⟨g', h1, h2⟩
  · cases h1
  · have hg : g = g' := by
      unfold spotV at h1
      injection h1 with _ h1
      injection h1 with h1
      injection h1 with h1
      injection h1
    subst hg
    rw [Lib.size_mk] at h2
    exact ⟨x, g, rfl, hx, hb, h2⟩
theorem cat_lists' (W : World) {a b c : List UInt8} (hc : a ++ b = c) (h : a.length + b.length ≤ 9223372036854775807) : (Op.stringOp .add ⟨a.toArray⟩ ⟨b.toArray⟩).run Tryz.prog W = .ok (.string ⟨c.toArray⟩) W := by
  rw [cat_lists W a b h, hc]

theorem ext_take (l : List UInt8) (k : Nat) : (⟨l.toArray⟩ : ByteArray).extract 0 k = ⟨(l.take k).toArray⟩ := by
  apply ByteArray.ext
  simp
/-- So many blanks. -/
def blanksL : List UInt8 := [32, 9, 10, 13, 32, 9, 10, 13, 32]
theorem blanks_blank (j : Nat) : ∀ c ∈ blanksL.take j, Ps.blank c = true := fun c hc => by
  have := List.mem_of_mem_take hc
  simp only [blanksL, List.mem_cons, List.not_mem_nil, or_false] at this
  rcases this with rfl | rfl | rfl | rfl | rfl | rfl | rfl | rfl | rfl <;> decide

set_option linter.unusedVariables false in
set_option linter.unusedSimpArgs false in
set_option maxRecDepth 100000 in
set_option maxHeartbeats 4000000 in
theorem blanks_long (s t : ByteArray) (n : Int) (w : World) (hT : Tabs w) (hs : s.size ≤ 1000000000000000000) (ht : t.size ≤ 1000000000000000000) (hl : 1000 < s.size ∨ (s.size ≤ 1000 ∧ 1000 < t.size)) :
    Calls Tryz.prog 4 #[.string s, .string t, .int .i64 n] w fun e w' => e = .returned (.bool true) ∧ Below w.heap.size w w' := by
  have HU := Lib.hid (up4_any w hT)
  clear hT
  rcases hl with hl | ⟨hl, hl'⟩
  · have hd : decide ((1000 : Int) < (s.size : Int)) = true := by simp; omega
    go_enter Tryz.func4, Tryz.ntmps4
    go_wp2_with fail
    refine HU.out.mono ?_
    rintro e w0 ⟨rfl, hb0⟩
    have HB0 := Lib.hid hb0
    clear hb0
    go_wp2_with fail
    go_ret
    exact ⟨rfl, HB0.out⟩
  · have hd : decide ((1000 : Int) < (s.size : Int)) = false := by simp; omega
    have hd2 : decide ((1000 : Int) < (t.size : Int)) = true := by simp; omega
    go_enter Tryz.func4, Tryz.ntmps4
    go_wp2_with fail
    refine HU.out.mono ?_
    rintro e w0 ⟨rfl, hb0⟩
    have HB0 := Lib.hid hb0
    clear hb0
    go_wp2_with fail
    go_ret
    exact ⟨rfl, HB0.out⟩

set_option linter.unusedVariables false in
set_option linter.unusedSimpArgs false in
set_option maxRecDepth 100000 in
set_option maxHeartbeats 4000000 in
theorem blanks_bad (s t : List UInt8) (n : Int) (w : World) (hT : Tabs w) (hs : s.length ≤ 1000) (ht : t.length ≤ 1000) {ca la : Nat} (hA : Ps.parse s = .bad ca la) :
    Calls Tryz.prog 4 #[.string ⟨s.toArray⟩, .string ⟨t.toArray⟩, .int .i64 n] w fun e w' => e = .returned (.bool true) ∧ Below w.heap.size w w' := by
  have HU := Lib.hid (up4_any w hT)
  have hT0 := Lib.hid hT
  clear hT
  have hd : decide ((1000 : Int) < (s.length : Int)) = false := by simp; omega
  have hd2 : decide ((1000 : Int) < (t.length : Int)) = false := by simp; omega
  go_enter Tryz.func4, Tryz.ntmps4
  go_wp2_with fail
  refine HU.out.mono ?_
  rintro e W0 ⟨rfl, hb0⟩
  have HB := Lib.hid hb0
  have HT := Lib.hid (hT0.out.on hb0)
  clear hb0 HU hT0
  have HP := Lib.hid (pz_bad hA (by omega) W0 HT.out)
  go_wp2_with fail
  refine HP.out.mono ?_
  rintro e W1 ⟨y1, e1, rfl, hx1, hb, hsp1⟩
  obtain ⟨k1, b1, n1, g1, x1, s1, A1, l1, p1, B1, m1, z1, rfl⟩ := In.cells hx1
  have hb' := hb.trans (((Below.refl W1.heap.size W1).alloc (Nat.le_refl _) (.cells #[.int .i64 k1, .bool b1, .bool n1, .string ⟨g1.toArray⟩, .int .i64 x1, .string ⟨s1.toArray⟩, .slice A1 l1 p1, .slice B1 m1 z1] 28)).mono hb.size)
  have HE1 := Lib.hid (spotat_on hsp1 ((Below.refl W1.heap.size W1).alloc (Nat.le_refl _) (.cells #[.int .i64 k1, .bool b1, .bool n1, .string ⟨g1.toArray⟩, .int .i64 x1, .string ⟨s1.toArray⟩, .slice A1 l1 p1, .slice B1 m1 z1] 28)))
  replace HB := Lib.hid (HB.out.trans (hb'.mono HB.out.size))
  replace HT := Lib.hid (HT.out.on hb')
  clear hx1 hb hb' HP hsp1
  go_upto_region 5 with (fail)
  generalize W1.alloc (.cells #[.int .i64 k1, .bool b1, .bool n1, .string ⟨g1.toArray⟩, .int .i64 x1, .string ⟨s1.toArray⟩, .slice A1 l1 p1, .slice B1 m1 z1] 28) = W2 at *
  have HP := Lib.hid (pz_told ⟨t.toArray⟩ (by rw [Lib.size_mk]; omega) W2 HT.out)
  go_wp2_with fail
  refine HP.out.mono ?_
  rintro e W3 ⟨v2, y2, ev2, c2, q2, rfl, hx2, hb, _, _⟩
  obtain ⟨k2, b2, n2, g2, x2, s2, A2, l2, p2, B2, m2, z2, rfl⟩ := In.cells hx2
  have hb' := hb.trans (((Below.refl W3.heap.size W3).alloc (Nat.le_refl _) (.cells #[.int .i64 k2, .bool b2, .bool n2, .string ⟨g2.toArray⟩, .int .i64 x2, .string ⟨s2.toArray⟩, .slice A2 l2 p2, .slice B2 m2 z2] 28)).mono hb.size)
  replace HE1 := Lib.hid (spotat_on HE1.out hb')
  replace HB := Lib.hid (HB.out.trans (hb'.mono HB.out.size))
  replace HT := Lib.hid (HT.out.on hb')
  clear hx2 hb hb' HP
  go_upto_region 6 with (fail)
  generalize W3.alloc (.cells #[.int .i64 k2, .bool b2, .bool n2, .string ⟨g2.toArray⟩, .int .i64 x2, .string ⟨s2.toArray⟩, .slice A2 l2 p2, .slice B2 m2 z2] 28) = W4 at *
  go_wp2_with fail
  refine (pick_any n 9 _ (by omega) (by omega)).mono ?_
  rintro e w' ⟨rfl, rfl⟩
  have hj0 : 0 ≤ n % 9 := Int.emod_nonneg _ (by omega)
  have hj1 : n % 9 < 9 := Int.emod_lt_of_pos _ (by omega)
  generalize n % 9 = j at hj0 hj1 ⊢
  have hjl : (blanksL.take j.toNat).length = j.toNat := by rw [List.length_take]; simp [blanksL]; omega
  have hex : (⟨#[32, 9, 10, 13, 32, 9, 10, 13, 32]⟩ : ByteArray).extract 0 j.toNat = ⟨(blanksL.take j.toNat).toArray⟩ := ext_take blanksL j.toNat
  have hbl := blanks_blank j.toNat
  generalize blanksL.take j.toNat = bl at hjl hex hbl
  have HP := Lib.hid (pz_bad (l := bl ++ s) (by rw [Ps.parse_ahead hbl (by rw [List.length_append]; omega)]; exact hA) (by rw [List.length_append]; omega) W4 HT.out)
  go_wp2_with fail
  rw [ByteArray.mk_append_mk]
  refine HP.out.mono ?_
  rintro e W5 ⟨y3, e3, rfl, hx3, hb, hsp3⟩
  obtain ⟨k3, b3, n3, g3, x3, s3, A3, l3, p3, B3, m3, z3, rfl⟩ := In.cells hx3
  have hb' := hb.trans (((Below.refl W5.heap.size W5).alloc (Nat.le_refl _) (.cells #[.int .i64 k3, .bool b3, .bool n3, .string ⟨g3.toArray⟩, .int .i64 x3, .string ⟨s3.toArray⟩, .slice A3 l3 p3, .slice B3 m3 z3] 28)).mono hb.size)
  replace HE1 := Lib.hid (spotat_on HE1.out hb')
  have HE3 := Lib.hid (spotat_on hsp3 ((Below.refl W5.heap.size W5).alloc (Nat.le_refl _) (.cells #[.int .i64 k3, .bool b3, .bool n3, .string ⟨g3.toArray⟩, .int .i64 x3, .string ⟨s3.toArray⟩, .slice A3 l3 p3, .slice B3 m3 z3] 28)))
  replace HB := Lib.hid (HB.out.trans (hb'.mono HB.out.size))
  replace HT := Lib.hid (HT.out.on hb')
  clear hx3 hb hb' HP hsp3
  go_upto_region 10 with (fail)
  generalize W5.alloc (.cells #[.int .i64 k3, .bool b3, .bool n3, .string ⟨g3.toArray⟩, .int .i64 x3, .string ⟨s3.toArray⟩, .slice A3 l3 p3, .slice B3 m3 z3] 28) = W6 at *
  have HE3' := Lib.hid (show SpotAt W6 e3 (((s.length : Int) - la) + j) ca from by have h := HE3.out; rwa [show (((bl ++ s).length : Nat) : Int) - (la : Int) = (((s.length : Int) - la) + j) from by rw [List.length_append]; omega] at h)
  clear HE3
  replace HE1 := Lib.hid (show SpotAt W6 e1 ((s.length : Int) - la) ca from HE1.out)
  have HC := Lib.hid (show Calls Tryz.prog 9 #[.iface 47 (.pointer (some ⟨e1, 0, none⟩))] W6 _ from spot_at e1 _ _ W6 HE1.out)
  go_wp2_with fail
  refine HC.out.mono ?_
  rintro e W7 ⟨rfl, hb⟩
  replace HE1 := Lib.hid (spotat_on HE1.out hb)
  replace HE3' := Lib.hid (spotat_on HE3'.out hb)
  replace HB := Lib.hid (HB.out.trans (hb.mono HB.out.size))
  replace HT := Lib.hid (HT.out.on hb)
  clear hb HC
  have HC := Lib.hid (show Calls Tryz.prog 9 #[.iface 47 (.pointer (some ⟨e3, 0, none⟩))] W7 _ from spot_at e3 _ _ W7 HE3'.out)
  go_wp2_with fail
  refine HC.out.mono ?_
  rintro e W9 ⟨rfl, hb⟩
  replace HE1 := Lib.hid (spotat_on HE1.out hb)
  replace HE3' := Lib.hid (spotat_on HE3'.out hb)
  replace HB := Lib.hid (HB.out.trans (hb.mono HB.out.size))
  replace HT := Lib.hid (HT.out.on hb)
  clear hb HC
  have hla := Ps.parse_told s
  rw [hA] at hla
  have hla2 : la ≤ s.length := hla.2.2
  have hw : wrap64 (((s.length : Int) - la) + j) = ((s.length : Int) - la) + j := by unfold wrap64; omega
  generalize ((s.length : Int) - la) = sp at hw ⊢
  generalize ((ca : Nat) : Int) = cc
  clear hla hla2
  go_wp2_with fail
  go_ret
  exact ⟨by simp [hw], HB.out⟩

set_option linter.unusedVariables false in
set_option linter.unusedSimpArgs false in
set_option maxRecDepth 100000 in
set_option maxHeartbeats 4000000 in
theorem blanks_one (s t : List UInt8) (n : Int) (w : World) (hT : Tabs w) (hs : s.length ≤ 1000) (ht : t.length ≤ 1000) {va : Vl} {ua : List UInt8} {cb lb : Nat} (hA : Ps.parse s = .ok va ua) (hB : Ps.parse t = .bad cb lb) :
    Calls Tryz.prog 4 #[.string ⟨s.toArray⟩, .string ⟨t.toArray⟩, .int .i64 n] w fun e w' => e = .returned (.bool true) ∧ Below w.heap.size w w' := by
  have HU := Lib.hid (up4_any w hT)
  have hT0 := Lib.hid hT
  clear hT
  have hd : decide ((1000 : Int) < (s.length : Int)) = false := by simp; omega
  have hd2 : decide ((1000 : Int) < (t.length : Int)) = false := by simp; omega
  go_enter Tryz.func4, Tryz.ntmps4
  go_wp2_with fail
  refine HU.out.mono ?_
  rintro e W0 ⟨rfl, hb0⟩
  have HB := Lib.hid hb0
  have HT := Lib.hid (hT0.out.on hb0)
  clear hb0 HU hT0
  have HP := Lib.hid (pz_ok hA (by omega) W0 HT.out)
  go_wp2_with fail
  refine HP.out.mono ?_
  rintro e W1 ⟨y1, rfl, hx1, hb⟩
  obtain ⟨k1, b1, n1, g1, x1, s1, A1, l1, p1, B1, m1, z1, rfl⟩ := In.cells hx1
  have hb' := hb.trans (((Below.refl W1.heap.size W1).alloc (Nat.le_refl _) (.cells #[.int .i64 k1, .bool b1, .bool n1, .string ⟨g1.toArray⟩, .int .i64 x1, .string ⟨s1.toArray⟩, .slice A1 l1 p1, .slice B1 m1 z1] 28)).mono hb.size)
  have HX1 := Lib.hid (Blk.new W1 28 #[.int .i64 k1, .bool b1, .bool n1, .string ⟨g1.toArray⟩, .int .i64 x1, .string ⟨s1.toArray⟩, .slice A1 l1 p1, .slice B1 m1 z1])
  have HN1 := Lib.hid (In.keep (le_alloc W1 (.cells #[.int .i64 k1, .bool b1, .bool n1, .string ⟨g1.toArray⟩, .int .i64 x1, .string ⟨s1.toArray⟩, .slice A1 l1 p1, .slice B1 m1 z1] 28)) _ _ hx1)
  replace HB := Lib.hid (HB.out.trans (hb'.mono HB.out.size))
  replace HT := Lib.hid (HT.out.on hb')
  clear hx1 hb hb' HP
  go_upto_region 5 with (fail)
  generalize W1.alloc (.cells #[.int .i64 k1, .bool b1, .bool n1, .string ⟨g1.toArray⟩, .int .i64 x1, .string ⟨s1.toArray⟩, .slice A1 l1 p1, .slice B1 m1 z1] 28) = W2 at *
  have HP := Lib.hid (pz_bad hB (by omega) W2 HT.out)
  go_wp2_with fail
  refine HP.out.mono ?_
  rintro e W3 ⟨y2, e2, rfl, hx2, hb, hsp2⟩
  obtain ⟨k2, b2, n2, g2, x2, s2, A2, l2, p2, B2, m2, z2, rfl⟩ := In.cells hx2
  have hb' := hb.trans (((Below.refl W3.heap.size W3).alloc (Nat.le_refl _) (.cells #[.int .i64 k2, .bool b2, .bool n2, .string ⟨g2.toArray⟩, .int .i64 x2, .string ⟨s2.toArray⟩, .slice A2 l2 p2, .slice B2 m2 z2] 28)).mono hb.size)
  replace HX1 := Lib.hid ((HX1.out.on hb).alloc (.cells #[.int .i64 k2, .bool b2, .bool n2, .string ⟨g2.toArray⟩, .int .i64 x2, .string ⟨s2.toArray⟩, .slice A2 l2 p2, .slice B2 m2 z2] 28))
  replace HN1 := Lib.hid (In.keep ((le_below hb).trans (le_alloc W3 (.cells #[.int .i64 k2, .bool b2, .bool n2, .string ⟨g2.toArray⟩, .int .i64 x2, .string ⟨s2.toArray⟩, .slice A2 l2 p2, .slice B2 m2 z2] 28))) _ _ HN1.out)
  have HE2 := Lib.hid (spotat_on hsp2 ((Below.refl W3.heap.size W3).alloc (Nat.le_refl _) (.cells #[.int .i64 k2, .bool b2, .bool n2, .string ⟨g2.toArray⟩, .int .i64 x2, .string ⟨s2.toArray⟩, .slice A2 l2 p2, .slice B2 m2 z2] 28)))
  replace HB := Lib.hid (HB.out.trans (hb'.mono HB.out.size))
  replace HT := Lib.hid (HT.out.on hb')
  clear hx2 hb hb' HP hsp2
  go_upto_region 6 with (fail)
  generalize W3.alloc (.cells #[.int .i64 k2, .bool b2, .bool n2, .string ⟨g2.toArray⟩, .int .i64 x2, .string ⟨s2.toArray⟩, .slice A2 l2 p2, .slice B2 m2 z2] 28) = W4 at *
  go_wp2_with fail
  refine (pick_any n 9 _ (by omega) (by omega)).mono ?_
  rintro e w' ⟨rfl, rfl⟩
  have hj0 : 0 ≤ n % 9 := Int.emod_nonneg _ (by omega)
  have hj1 : n % 9 < 9 := Int.emod_lt_of_pos _ (by omega)
  generalize n % 9 = j at hj0 hj1 ⊢
  have hjl : (blanksL.take j.toNat).length = j.toNat := by rw [List.length_take]; simp [blanksL]; omega
  have hex : (⟨#[32, 9, 10, 13, 32, 9, 10, 13, 32]⟩ : ByteArray).extract 0 j.toNat = ⟨(blanksL.take j.toNat).toArray⟩ := ext_take blanksL j.toNat
  have hbl := blanks_blank j.toNat
  generalize blanksL.take j.toNat = bl at hjl hex hbl
  have HP := Lib.hid (pz_ok (l := (bl ++ s) ++ bl) (Ps.parse_behind hbl (by simp only [List.length_append]; omega) (by rw [Ps.parse_ahead hbl (by rw [List.length_append]; omega)]; exact hA)) (by simp only [List.length_append]; omega) W4 HT.out)
  go_wp2_with fail
  rw [ByteArray.mk_append_mk, ByteArray.mk_append_mk]
  refine HP.out.mono ?_
  rintro e W5 ⟨y3, rfl, hx3, hb⟩
  obtain ⟨k3, b3, n3, g3, x3, s3, A3, l3, p3, B3, m3, z3, rfl⟩ := In.cells hx3
  have hb' := hb.trans (((Below.refl W5.heap.size W5).alloc (Nat.le_refl _) (.cells #[.int .i64 k3, .bool b3, .bool n3, .string ⟨g3.toArray⟩, .int .i64 x3, .string ⟨s3.toArray⟩, .slice A3 l3 p3, .slice B3 m3 z3] 28)).mono hb.size)
  replace HX1 := Lib.hid ((HX1.out.on hb).alloc (.cells #[.int .i64 k3, .bool b3, .bool n3, .string ⟨g3.toArray⟩, .int .i64 x3, .string ⟨s3.toArray⟩, .slice A3 l3 p3, .slice B3 m3 z3] 28))
  replace HN1 := Lib.hid (In.keep ((le_below hb).trans (le_alloc W5 (.cells #[.int .i64 k3, .bool b3, .bool n3, .string ⟨g3.toArray⟩, .int .i64 x3, .string ⟨s3.toArray⟩, .slice A3 l3 p3, .slice B3 m3 z3] 28))) _ _ HN1.out)
  have HX3 := Lib.hid (Blk.new W5 28 #[.int .i64 k3, .bool b3, .bool n3, .string ⟨g3.toArray⟩, .int .i64 x3, .string ⟨s3.toArray⟩, .slice A3 l3 p3, .slice B3 m3 z3])
  have HN3 := Lib.hid (In.keep (le_alloc W5 (.cells #[.int .i64 k3, .bool b3, .bool n3, .string ⟨g3.toArray⟩, .int .i64 x3, .string ⟨s3.toArray⟩, .slice A3 l3 p3, .slice B3 m3 z3] 28)) _ _ hx3)
  replace HB := Lib.hid (HB.out.trans (hb'.mono HB.out.size))
  replace HT := Lib.hid (HT.out.on hb')
  clear hx3 hb hb' HP
  go_upto_region 14 with (fail)
  generalize W5.alloc (.cells #[.int .i64 k3, .bool b3, .bool n3, .string ⟨g3.toArray⟩, .int .i64 x3, .string ⟨s3.toArray⟩, .slice A3 l3 p3, .slice B3 m3 z3] 28) = W6 at *
  obtain ⟨a0, a1, a2, a3, a4, a5, a6, a7⟩ := HX1.out.eight
  obtain ⟨d0, d1, d2, d3, d4, d5, d6, d7⟩ := HX3.out.eight
  have HC := Lib.hid (refSame_on HN1.out HN3.out (same_refl _) _ (Below.refl _ _))
  go_wp2_with fail
  refine HC.out.mono ?_
  rintro e W7 ⟨rfl, hb⟩
  replace HX1 := Lib.hid (HX1.out.on hb)
  replace HN1 := Lib.hid (In.keep (le_below hb) _ _ HN1.out)
  replace HX3 := Lib.hid (HX3.out.on hb)
  replace HN3 := Lib.hid (In.keep (le_below hb) _ _ HN3.out)
  replace HB := Lib.hid (HB.out.trans (hb.mono HB.out.size))
  replace HT := Lib.hid (HT.out.on hb)
  clear hb HC a0 a1 a2 a3 a4 a5 a6 a7 d0 d1 d2 d3 d4 d5 d6 d7
  clear HX3 HN3
  have HP := Lib.hid (pz_told ⟨(((([91] ++ s) ++ [44]) ++ t) ++ [93]).toArray⟩ (by rw [Lib.size_mk]; simp only [List.length_append, List.length_cons, List.length_nil]; omega) W7 HT.out)
  go_wp2_with fail
  rw [ByteArray.mk_append_mk, ByteArray.mk_append_mk, ByteArray.mk_append_mk, ByteArray.mk_append_mk]
  refine HP.out.mono ?_
  rintro e W9 ⟨v4, y4, ev4, c4, q4, rfl, hx4, hb, _, _⟩
  obtain ⟨k4, b4, n4, g4, x4, s4, A4, l4, p4, B4, m4, z4, rfl⟩ := In.cells hx4
  have hb' := hb.trans (((Below.refl W9.heap.size W9).alloc (Nat.le_refl _) (.cells #[.int .i64 k4, .bool b4, .bool n4, .string ⟨g4.toArray⟩, .int .i64 x4, .string ⟨s4.toArray⟩, .slice A4 l4 p4, .slice B4 m4 z4] 28)).mono hb.size)
  replace HX1 := Lib.hid ((HX1.out.on hb).alloc (.cells #[.int .i64 k4, .bool b4, .bool n4, .string ⟨g4.toArray⟩, .int .i64 x4, .string ⟨s4.toArray⟩, .slice A4 l4 p4, .slice B4 m4 z4] 28))
  replace HN1 := Lib.hid (In.keep ((le_below hb).trans (le_alloc W9 (.cells #[.int .i64 k4, .bool b4, .bool n4, .string ⟨g4.toArray⟩, .int .i64 x4, .string ⟨s4.toArray⟩, .slice A4 l4 p4, .slice B4 m4 z4] 28))) _ _ HN1.out)
  replace HB := Lib.hid (HB.out.trans (hb'.mono HB.out.size))
  replace HT := Lib.hid (HT.out.on hb')
  clear hx4 hb hb' HP
  go_upto_region 18 with (fail)
  generalize W9.alloc (.cells #[.int .i64 k4, .bool b4, .bool n4, .string ⟨g4.toArray⟩, .int .i64 x4, .string ⟨s4.toArray⟩, .slice A4 l4 p4, .slice B4 m4 z4] 28) = W10 at *
  go_wp2_with fail
  go_ret
  exact ⟨rfl, HB.out⟩

set_option linter.unusedVariables false in
set_option linter.unusedSimpArgs false in
set_option maxRecDepth 100000 in
set_option maxHeartbeats 4000000 in
theorem blanks_deep (s t : List UInt8) (n : Int) (w : World) (hT : Tabs w) (hs : s.length ≤ 1000) (ht : t.length ≤ 1000) {va vb : Vl} {ua ub : List UInt8} {l4' l5' : Nat} (hA : Ps.parse s = .ok va ua) (hB : Ps.parse t = .ok vb ub) (hL : Ps.parse (((([91] ++ s) ++ [44]) ++ t) ++ [93]) = .bad 3 l4') (hO : Ps.parse (((([123, 34, 121, 34, 58] ++ s) ++ [44, 34, 120, 34, 58]) ++ t) ++ [125]) = .bad 3 l5') :
    Calls Tryz.prog 4 #[.string ⟨s.toArray⟩, .string ⟨t.toArray⟩, .int .i64 n] w fun e w' => e = .returned (.bool true) ∧ Below w.heap.size w w' := by
  have HU := Lib.hid (up4_any w hT)
  have hT0 := Lib.hid hT
  clear hT
  have hd : decide ((1000 : Int) < (s.length : Int)) = false := by simp; omega
  have hd2 : decide ((1000 : Int) < (t.length : Int)) = false := by simp; omega
  go_enter Tryz.func4, Tryz.ntmps4
  go_wp2_with fail
  refine HU.out.mono ?_
  rintro e W0 ⟨rfl, hb0⟩
  have HB := Lib.hid hb0
  have HT := Lib.hid (hT0.out.on hb0)
  clear hb0 HU hT0
  have HP := Lib.hid (pz_ok hA (by omega) W0 HT.out)
  go_wp2_with fail
  refine HP.out.mono ?_
  rintro e W1 ⟨y1, rfl, hx1, hb⟩
  obtain ⟨k1, b1, n1, g1, x1, s1, A1, l1, p1, B1, m1, z1, rfl⟩ := In.cells hx1
  have hb' := hb.trans (((Below.refl W1.heap.size W1).alloc (Nat.le_refl _) (.cells #[.int .i64 k1, .bool b1, .bool n1, .string ⟨g1.toArray⟩, .int .i64 x1, .string ⟨s1.toArray⟩, .slice A1 l1 p1, .slice B1 m1 z1] 28)).mono hb.size)
  have HX1 := Lib.hid (Blk.new W1 28 #[.int .i64 k1, .bool b1, .bool n1, .string ⟨g1.toArray⟩, .int .i64 x1, .string ⟨s1.toArray⟩, .slice A1 l1 p1, .slice B1 m1 z1])
  have HN1 := Lib.hid (In.keep (le_alloc W1 (.cells #[.int .i64 k1, .bool b1, .bool n1, .string ⟨g1.toArray⟩, .int .i64 x1, .string ⟨s1.toArray⟩, .slice A1 l1 p1, .slice B1 m1 z1] 28)) _ _ hx1)
  replace HB := Lib.hid (HB.out.trans (hb'.mono HB.out.size))
  replace HT := Lib.hid (HT.out.on hb')
  clear hx1 hb hb' HP
  go_upto_region 5 with (fail)
  generalize W1.alloc (.cells #[.int .i64 k1, .bool b1, .bool n1, .string ⟨g1.toArray⟩, .int .i64 x1, .string ⟨s1.toArray⟩, .slice A1 l1 p1, .slice B1 m1 z1] 28) = W2 at *
  have HP := Lib.hid (pz_ok hB (by omega) W2 HT.out)
  go_wp2_with fail
  refine HP.out.mono ?_
  rintro e W3 ⟨y2, rfl, hx2, hb⟩
  obtain ⟨k2, b2, n2, g2, x2, s2, A2, l2, p2, B2, m2, z2, rfl⟩ := In.cells hx2
  have hb' := hb.trans (((Below.refl W3.heap.size W3).alloc (Nat.le_refl _) (.cells #[.int .i64 k2, .bool b2, .bool n2, .string ⟨g2.toArray⟩, .int .i64 x2, .string ⟨s2.toArray⟩, .slice A2 l2 p2, .slice B2 m2 z2] 28)).mono hb.size)
  replace HX1 := Lib.hid ((HX1.out.on hb).alloc (.cells #[.int .i64 k2, .bool b2, .bool n2, .string ⟨g2.toArray⟩, .int .i64 x2, .string ⟨s2.toArray⟩, .slice A2 l2 p2, .slice B2 m2 z2] 28))
  replace HN1 := Lib.hid (In.keep ((le_below hb).trans (le_alloc W3 (.cells #[.int .i64 k2, .bool b2, .bool n2, .string ⟨g2.toArray⟩, .int .i64 x2, .string ⟨s2.toArray⟩, .slice A2 l2 p2, .slice B2 m2 z2] 28))) _ _ HN1.out)
  have HX2 := Lib.hid (Blk.new W3 28 #[.int .i64 k2, .bool b2, .bool n2, .string ⟨g2.toArray⟩, .int .i64 x2, .string ⟨s2.toArray⟩, .slice A2 l2 p2, .slice B2 m2 z2])
  have HN2 := Lib.hid (In.keep (le_alloc W3 (.cells #[.int .i64 k2, .bool b2, .bool n2, .string ⟨g2.toArray⟩, .int .i64 x2, .string ⟨s2.toArray⟩, .slice A2 l2 p2, .slice B2 m2 z2] 28)) _ _ hx2)
  replace HB := Lib.hid (HB.out.trans (hb'.mono HB.out.size))
  replace HT := Lib.hid (HT.out.on hb')
  clear hx2 hb hb' HP
  go_upto_region 6 with (fail)
  generalize W3.alloc (.cells #[.int .i64 k2, .bool b2, .bool n2, .string ⟨g2.toArray⟩, .int .i64 x2, .string ⟨s2.toArray⟩, .slice A2 l2 p2, .slice B2 m2 z2] 28) = W4 at *
  go_wp2_with fail
  refine (pick_any n 9 _ (by omega) (by omega)).mono ?_
  rintro e w' ⟨rfl, rfl⟩
  have hj0 : 0 ≤ n % 9 := Int.emod_nonneg _ (by omega)
  have hj1 : n % 9 < 9 := Int.emod_lt_of_pos _ (by omega)
  generalize n % 9 = j at hj0 hj1 ⊢
  have hjl : (blanksL.take j.toNat).length = j.toNat := by rw [List.length_take]; simp [blanksL]; omega
  have hex : (⟨#[32, 9, 10, 13, 32, 9, 10, 13, 32]⟩ : ByteArray).extract 0 j.toNat = ⟨(blanksL.take j.toNat).toArray⟩ := ext_take blanksL j.toNat
  have hbl := blanks_blank j.toNat
  generalize blanksL.take j.toNat = bl at hjl hex hbl
  have HP := Lib.hid (pz_ok (l := (bl ++ s) ++ bl) (Ps.parse_behind hbl (by simp only [List.length_append]; omega) (by rw [Ps.parse_ahead hbl (by rw [List.length_append]; omega)]; exact hA)) (by simp only [List.length_append]; omega) W4 HT.out)
  go_wp2_with fail
  rw [ByteArray.mk_append_mk, ByteArray.mk_append_mk]
  refine HP.out.mono ?_
  rintro e W5 ⟨y3, rfl, hx3, hb⟩
  obtain ⟨k3, b3, n3, g3, x3, s3, A3, l3, p3, B3, m3, z3, rfl⟩ := In.cells hx3
  have hb' := hb.trans (((Below.refl W5.heap.size W5).alloc (Nat.le_refl _) (.cells #[.int .i64 k3, .bool b3, .bool n3, .string ⟨g3.toArray⟩, .int .i64 x3, .string ⟨s3.toArray⟩, .slice A3 l3 p3, .slice B3 m3 z3] 28)).mono hb.size)
  replace HX1 := Lib.hid ((HX1.out.on hb).alloc (.cells #[.int .i64 k3, .bool b3, .bool n3, .string ⟨g3.toArray⟩, .int .i64 x3, .string ⟨s3.toArray⟩, .slice A3 l3 p3, .slice B3 m3 z3] 28))
  replace HN1 := Lib.hid (In.keep ((le_below hb).trans (le_alloc W5 (.cells #[.int .i64 k3, .bool b3, .bool n3, .string ⟨g3.toArray⟩, .int .i64 x3, .string ⟨s3.toArray⟩, .slice A3 l3 p3, .slice B3 m3 z3] 28))) _ _ HN1.out)
  replace HX2 := Lib.hid ((HX2.out.on hb).alloc (.cells #[.int .i64 k3, .bool b3, .bool n3, .string ⟨g3.toArray⟩, .int .i64 x3, .string ⟨s3.toArray⟩, .slice A3 l3 p3, .slice B3 m3 z3] 28))
  replace HN2 := Lib.hid (In.keep ((le_below hb).trans (le_alloc W5 (.cells #[.int .i64 k3, .bool b3, .bool n3, .string ⟨g3.toArray⟩, .int .i64 x3, .string ⟨s3.toArray⟩, .slice A3 l3 p3, .slice B3 m3 z3] 28))) _ _ HN2.out)
  have HX3 := Lib.hid (Blk.new W5 28 #[.int .i64 k3, .bool b3, .bool n3, .string ⟨g3.toArray⟩, .int .i64 x3, .string ⟨s3.toArray⟩, .slice A3 l3 p3, .slice B3 m3 z3])
  have HN3 := Lib.hid (In.keep (le_alloc W5 (.cells #[.int .i64 k3, .bool b3, .bool n3, .string ⟨g3.toArray⟩, .int .i64 x3, .string ⟨s3.toArray⟩, .slice A3 l3 p3, .slice B3 m3 z3] 28)) _ _ hx3)
  replace HB := Lib.hid (HB.out.trans (hb'.mono HB.out.size))
  replace HT := Lib.hid (HT.out.on hb')
  clear hx3 hb hb' HP
  go_upto_region 14 with (fail)
  generalize W5.alloc (.cells #[.int .i64 k3, .bool b3, .bool n3, .string ⟨g3.toArray⟩, .int .i64 x3, .string ⟨s3.toArray⟩, .slice A3 l3 p3, .slice B3 m3 z3] 28) = W6 at *
  obtain ⟨a0, a1, a2, a3, a4, a5, a6, a7⟩ := HX1.out.eight
  obtain ⟨d0, d1, d2, d3, d4, d5, d6, d7⟩ := HX3.out.eight
  have HC := Lib.hid (refSame_on HN1.out HN3.out (same_refl _) _ (Below.refl _ _))
  go_wp2_with fail
  refine HC.out.mono ?_
  rintro e W7 ⟨rfl, hb⟩
  replace HX1 := Lib.hid (HX1.out.on hb)
  replace HN1 := Lib.hid (In.keep (le_below hb) _ _ HN1.out)
  replace HX2 := Lib.hid (HX2.out.on hb)
  replace HN2 := Lib.hid (In.keep (le_below hb) _ _ HN2.out)
  replace HX3 := Lib.hid (HX3.out.on hb)
  replace HN3 := Lib.hid (In.keep (le_below hb) _ _ HN3.out)
  replace HB := Lib.hid (HB.out.trans (hb.mono HB.out.size))
  replace HT := Lib.hid (HT.out.on hb)
  clear hb HC a0 a1 a2 a3 a4 a5 a6 a7 d0 d1 d2 d3 d4 d5 d6 d7
  clear HX3 HN3
  have HP := Lib.hid (pz_bad hL (by simp only [List.length_append, List.length_cons, List.length_nil]; omega) W7 HT.out)
  go_wp2_with fail
  rw [ByteArray.mk_append_mk, ByteArray.mk_append_mk, ByteArray.mk_append_mk, ByteArray.mk_append_mk]
  refine HP.out.mono ?_
  rintro e W9 ⟨y4, e4, rfl, hx4, hb, hsp4⟩
  obtain ⟨k4, b4, n4, g4, x4, s4, A4, l4, p4, B4, m4, z4, rfl⟩ := In.cells hx4
  have hb' := hb.trans (((Below.refl W9.heap.size W9).alloc (Nat.le_refl _) (.cells #[.int .i64 k4, .bool b4, .bool n4, .string ⟨g4.toArray⟩, .int .i64 x4, .string ⟨s4.toArray⟩, .slice A4 l4 p4, .slice B4 m4 z4] 28)).mono hb.size)
  replace HX1 := Lib.hid ((HX1.out.on hb).alloc (.cells #[.int .i64 k4, .bool b4, .bool n4, .string ⟨g4.toArray⟩, .int .i64 x4, .string ⟨s4.toArray⟩, .slice A4 l4 p4, .slice B4 m4 z4] 28))
  replace HN1 := Lib.hid (In.keep ((le_below hb).trans (le_alloc W9 (.cells #[.int .i64 k4, .bool b4, .bool n4, .string ⟨g4.toArray⟩, .int .i64 x4, .string ⟨s4.toArray⟩, .slice A4 l4 p4, .slice B4 m4 z4] 28))) _ _ HN1.out)
  replace HX2 := Lib.hid ((HX2.out.on hb).alloc (.cells #[.int .i64 k4, .bool b4, .bool n4, .string ⟨g4.toArray⟩, .int .i64 x4, .string ⟨s4.toArray⟩, .slice A4 l4 p4, .slice B4 m4 z4] 28))
  replace HN2 := Lib.hid (In.keep ((le_below hb).trans (le_alloc W9 (.cells #[.int .i64 k4, .bool b4, .bool n4, .string ⟨g4.toArray⟩, .int .i64 x4, .string ⟨s4.toArray⟩, .slice A4 l4 p4, .slice B4 m4 z4] 28))) _ _ HN2.out)
  have HE4 := Lib.hid (spotat_on hsp4 ((Below.refl W9.heap.size W9).alloc (Nat.le_refl _) (.cells #[.int .i64 k4, .bool b4, .bool n4, .string ⟨g4.toArray⟩, .int .i64 x4, .string ⟨s4.toArray⟩, .slice A4 l4 p4, .slice B4 m4 z4] 28)))
  replace HB := Lib.hid (HB.out.trans (hb'.mono HB.out.size))
  replace HT := Lib.hid (HT.out.on hb')
  clear hx4 hb hb' HP hsp4
  go_upto_region 18 with (fail)
  generalize W9.alloc (.cells #[.int .i64 k4, .bool b4, .bool n4, .string ⟨g4.toArray⟩, .int .i64 x4, .string ⟨s4.toArray⟩, .slice A4 l4 p4, .slice B4 m4 z4] 28) = W10 at *
  go_upto_region 20 with (fail)
  have HP := Lib.hid (pz_bad hO (by simp only [List.length_append, List.length_cons, List.length_nil]; omega) W10 HT.out)
  go_wp2_with fail
  rw [ByteArray.mk_append_mk, ByteArray.mk_append_mk, ByteArray.mk_append_mk, ByteArray.mk_append_mk]
  refine HP.out.mono ?_
  rintro e W11 ⟨y5, e5, rfl, hx5, hb, hsp5⟩
  obtain ⟨k5, b5, n5, g5, x5, s5, A5, l5, p5, B5, m5, z5, rfl⟩ := In.cells hx5
  have hb' := hb.trans (((Below.refl W11.heap.size W11).alloc (Nat.le_refl _) (.cells #[.int .i64 k5, .bool b5, .bool n5, .string ⟨g5.toArray⟩, .int .i64 x5, .string ⟨s5.toArray⟩, .slice A5 l5 p5, .slice B5 m5 z5] 28)).mono hb.size)
  replace HX1 := Lib.hid ((HX1.out.on hb).alloc (.cells #[.int .i64 k5, .bool b5, .bool n5, .string ⟨g5.toArray⟩, .int .i64 x5, .string ⟨s5.toArray⟩, .slice A5 l5 p5, .slice B5 m5 z5] 28))
  replace HN1 := Lib.hid (In.keep ((le_below hb).trans (le_alloc W11 (.cells #[.int .i64 k5, .bool b5, .bool n5, .string ⟨g5.toArray⟩, .int .i64 x5, .string ⟨s5.toArray⟩, .slice A5 l5 p5, .slice B5 m5 z5] 28))) _ _ HN1.out)
  replace HX2 := Lib.hid ((HX2.out.on hb).alloc (.cells #[.int .i64 k5, .bool b5, .bool n5, .string ⟨g5.toArray⟩, .int .i64 x5, .string ⟨s5.toArray⟩, .slice A5 l5 p5, .slice B5 m5 z5] 28))
  replace HN2 := Lib.hid (In.keep ((le_below hb).trans (le_alloc W11 (.cells #[.int .i64 k5, .bool b5, .bool n5, .string ⟨g5.toArray⟩, .int .i64 x5, .string ⟨s5.toArray⟩, .slice A5 l5 p5, .slice B5 m5 z5] 28))) _ _ HN2.out)
  replace HE4 := Lib.hid (spotat_on HE4.out hb')
  have HE5 := Lib.hid (spotat_on hsp5 ((Below.refl W11.heap.size W11).alloc (Nat.le_refl _) (.cells #[.int .i64 k5, .bool b5, .bool n5, .string ⟨g5.toArray⟩, .int .i64 x5, .string ⟨s5.toArray⟩, .slice A5 l5 p5, .slice B5 m5 z5] 28)))
  replace HB := Lib.hid (HB.out.trans (hb'.mono HB.out.size))
  replace HT := Lib.hid (HT.out.on hb')
  clear hx5 hb hb' HP hsp5
  go_upto_region 21 with (fail)
  generalize W11.alloc (.cells #[.int .i64 k5, .bool b5, .bool n5, .string ⟨g5.toArray⟩, .int .i64 x5, .string ⟨s5.toArray⟩, .slice A5 l5 p5, .slice B5 m5 z5] 28) = W12 at *
  have HC := Lib.hid (show Calls Tryz.prog 9 #[.iface 47 (.pointer (some ⟨e4, 0, none⟩))] W12 _ from spot_at e4 _ _ W12 HE4.out)
  go_wp2_with fail
  refine HC.out.mono ?_
  rintro e W13 ⟨rfl, hb⟩
  replace HX1 := Lib.hid (HX1.out.on hb)
  replace HN1 := Lib.hid (In.keep (le_below hb) _ _ HN1.out)
  replace HX2 := Lib.hid (HX2.out.on hb)
  replace HN2 := Lib.hid (In.keep (le_below hb) _ _ HN2.out)
  replace HE4 := Lib.hid (spotat_on HE4.out hb)
  replace HE5 := Lib.hid (spotat_on HE5.out hb)
  replace HB := Lib.hid (HB.out.trans (hb.mono HB.out.size))
  replace HT := Lib.hid (HT.out.on hb)
  clear hb HC
  generalize ((((((([91] ++ s) ++ [44]) ++ t) ++ [93]).length : Nat) : Int) - (l4' : Int)) = sp
  go_wp2_with fail
  go_ret
  exact ⟨rfl, HB.out⟩

theorem pair_in {W : World} {a b : Vl} {T : TypeId} {c0 c1 c2 c3 c4 c5 c6 c7 d0 d1 d2 d3 d4 d5 d6 d7 : Value} (ha : a.In W.cell? (.agg #[c0, c1, c2, c3, c4, c5, c6, c7])) (hb : b.In W.cell? (.agg #[d0, d1, d2, d3, d4, d5, d6, d7])) :
    (Ps.mkA [a, b]).In (W.alloc (.cells #[c0, c1, c2, c3, c4, c5, c6, c7, d0, d1, d2, d3, d4, d5, d6, d7] T)).cell? (.agg #[.int .i64 4, .bool false, .bool false, .string ⟨#[]⟩, .int .i64 0, .string ⟨#[]⟩, .slice (some ⟨W.heap.size, 0, none⟩) 2 2, .slice none 0 0]) := by
  have hB := Blk.new W T #[c0, c1, c2, c3, c4, c5, c6, c7, d0, d1, d2, d3, d4, d5, d6, d7]
  have hk := le_alloc W (.cells #[c0, c1, c2, c3, c4, c5, c6, c7, d0, d1, d2, d3, d4, d5, d6, d7] T)
  simp only [Vl.In]
  refine ⟨some ⟨W.heap.size, 0, none⟩, 2, none, 0, rfl, Nat.le_refl _, by simp [maxLen], Nat.le_refl _, by simp [maxLen], fun _ => ⟨W.heap.size, 0, rfl, ?_⟩, fun h => absurd h (by simp)⟩
  simp only [LIn]
  refine ⟨⟨_, In.keep hk _ _ ha, fun j u hu => ?_⟩, ⟨_, In.keep hk _ _ hb, fun j u hu => ?_⟩, trivial⟩
  · have hj : j < 8 := (Array.getElem?_eq_some_iff.1 hu).1
    rw [hB.cell, ← hu]
    match j, hj with
    | 0, _ => rfl
    | 1, _ => rfl
    | 2, _ => rfl
    | 3, _ => rfl
    | 4, _ => rfl
    | 5, _ => rfl
    | 6, _ => rfl
    | 7, _ => rfl
  · have hj : j < 8 := (Array.getElem?_eq_some_iff.1 hu).1
    rw [hB.cell, ← hu]
    match j, hj with
    | 0, _ => rfl
    | 1, _ => rfl
    | 2, _ => rfl
    | 3, _ => rfl
    | 4, _ => rfl
    | 5, _ => rfl
    | 6, _ => rfl
    | 7, _ => rfl
theorem mems_in {W : World} {a b : Vl} {T : TypeId} {c0 c1 c2 c3 c4 c5 c6 c7 d0 d1 d2 d3 d4 d5 d6 d7 : Value} (ha : a.In W.cell? (.agg #[c0, c1, c2, c3, c4, c5, c6, c7])) (hb : b.In W.cell? (.agg #[d0, d1, d2, d3, d4, d5, d6, d7])) :
    (Ps.mkO [([120], b), ([121], a)]).In (W.alloc (.cells #[.string ⟨#[120]⟩, d0, d1, d2, d3, d4, d5, d6, d7, .string ⟨#[121]⟩, c0, c1, c2, c3, c4, c5, c6, c7] T)).cell? (.agg #[.int .i64 5, .bool false, .bool false, .string ⟨#[]⟩, .int .i64 0, .string ⟨#[]⟩, .slice none 0 0, .slice (some ⟨W.heap.size, 0, none⟩) 2 2]) := by
  have hB := Blk.new W T #[.string ⟨#[120]⟩, d0, d1, d2, d3, d4, d5, d6, d7, .string ⟨#[121]⟩, c0, c1, c2, c3, c4, c5, c6, c7]
  have hk := le_alloc W (.cells #[.string ⟨#[120]⟩, d0, d1, d2, d3, d4, d5, d6, d7, .string ⟨#[121]⟩, c0, c1, c2, c3, c4, c5, c6, c7] T)
  simp only [Vl.In]
  refine ⟨none, 0, some ⟨W.heap.size, 0, none⟩, 2, rfl, Nat.le_refl _, by simp [maxLen], Nat.le_refl _, by simp [maxLen], fun h => absurd h (by simp), fun _ => ⟨W.heap.size, 0, rfl, ?_⟩⟩
  simp only [MIn, PIn]
  refine ⟨⟨by rw [hB.cell]; rfl, _, In.keep hk _ _ hb, fun j u hu => ?_⟩, ⟨by rw [hB.cell]; rfl, _, In.keep hk _ _ ha, fun j u hu => ?_⟩, trivial⟩
  · have hj : j < 8 := (Array.getElem?_eq_some_iff.1 hu).1
    rw [hB.cell, ← hu]
    match j, hj with
    | 0, _ => rfl
    | 1, _ => rfl
    | 2, _ => rfl
    | 3, _ => rfl
    | 4, _ => rfl
    | 5, _ => rfl
    | 6, _ => rfl
    | 7, _ => rfl
  · have hj : j < 8 := (Array.getElem?_eq_some_iff.1 hu).1
    rw [hB.cell, ← hu]
    match j, hj with
    | 0, _ => rfl
    | 1, _ => rfl
    | 2, _ => rfl
    | 3, _ => rfl
    | 4, _ => rfl
    | 5, _ => rfl
    | 6, _ => rfl
    | 7, _ => rfl

set_option linter.unusedVariables false in
set_option linter.unusedSimpArgs false in
set_option maxRecDepth 100000 in
set_option maxHeartbeats 4000000 in
theorem blanks_both (s t : List UInt8) (n : Int) (w : World) (hT : Tabs w) (hs : s.length ≤ 1000) (ht : t.length ≤ 1000) {va vb : Vl} {ua ub u4 u5 : List UInt8} (hA : Ps.parse s = .ok va ua) (hB : Ps.parse t = .ok vb ub) (hL : Ps.parse (((([91] ++ s) ++ [44]) ++ t) ++ [93]) = .ok (Ps.mkA [va, vb]) u4) (hO : Ps.parse (((([123, 34, 121, 34, 58] ++ s) ++ [44, 34, 120, 34, 58]) ++ t) ++ [125]) = .ok (Ps.mkO [([120], vb), ([121], va)]) u5) :
    Calls Tryz.prog 4 #[.string ⟨s.toArray⟩, .string ⟨t.toArray⟩, .int .i64 n] w fun e w' => e = .returned (.bool true) ∧ Below w.heap.size w w' := by
  have HU := Lib.hid (up4_any w hT)
  have hT0 := Lib.hid hT
  clear hT
  have hd : decide ((1000 : Int) < (s.length : Int)) = false := by simp; omega
  have hd2 : decide ((1000 : Int) < (t.length : Int)) = false := by simp; omega
  go_enter Tryz.func4, Tryz.ntmps4
  go_wp2_with fail
  refine HU.out.mono ?_
  rintro e W0 ⟨rfl, hb0⟩
  have HB := Lib.hid hb0
  have HT := Lib.hid (hT0.out.on hb0)
  clear hb0 HU hT0
  have HP := Lib.hid (pz_ok hA (by omega) W0 HT.out)
  go_wp2_with fail
  refine HP.out.mono ?_
  rintro e W1 ⟨y1, rfl, hx1, hb⟩
  obtain ⟨k1, b1, n1, g1, x1, s1, A1, l1, p1, B1, m1, z1, rfl⟩ := In.cells hx1
  have hb' := hb.trans (((Below.refl W1.heap.size W1).alloc (Nat.le_refl _) (.cells #[.int .i64 k1, .bool b1, .bool n1, .string ⟨g1.toArray⟩, .int .i64 x1, .string ⟨s1.toArray⟩, .slice A1 l1 p1, .slice B1 m1 z1] 28)).mono hb.size)
  have HX1 := Lib.hid (Blk.new W1 28 #[.int .i64 k1, .bool b1, .bool n1, .string ⟨g1.toArray⟩, .int .i64 x1, .string ⟨s1.toArray⟩, .slice A1 l1 p1, .slice B1 m1 z1])
  have HN1 := Lib.hid (In.keep (le_alloc W1 (.cells #[.int .i64 k1, .bool b1, .bool n1, .string ⟨g1.toArray⟩, .int .i64 x1, .string ⟨s1.toArray⟩, .slice A1 l1 p1, .slice B1 m1 z1] 28)) _ _ hx1)
  replace HB := Lib.hid (HB.out.trans (hb'.mono HB.out.size))
  replace HT := Lib.hid (HT.out.on hb')
  clear hx1 hb hb' HP
  go_upto_region 5 with (fail)
  generalize W1.alloc (.cells #[.int .i64 k1, .bool b1, .bool n1, .string ⟨g1.toArray⟩, .int .i64 x1, .string ⟨s1.toArray⟩, .slice A1 l1 p1, .slice B1 m1 z1] 28) = W2 at *
  have HP := Lib.hid (pz_ok hB (by omega) W2 HT.out)
  go_wp2_with fail
  refine HP.out.mono ?_
  rintro e W3 ⟨y2, rfl, hx2, hb⟩
  obtain ⟨k2, b2, n2, g2, x2, s2, A2, l2, p2, B2, m2, z2, rfl⟩ := In.cells hx2
  have hb' := hb.trans (((Below.refl W3.heap.size W3).alloc (Nat.le_refl _) (.cells #[.int .i64 k2, .bool b2, .bool n2, .string ⟨g2.toArray⟩, .int .i64 x2, .string ⟨s2.toArray⟩, .slice A2 l2 p2, .slice B2 m2 z2] 28)).mono hb.size)
  replace HX1 := Lib.hid ((HX1.out.on hb).alloc (.cells #[.int .i64 k2, .bool b2, .bool n2, .string ⟨g2.toArray⟩, .int .i64 x2, .string ⟨s2.toArray⟩, .slice A2 l2 p2, .slice B2 m2 z2] 28))
  replace HN1 := Lib.hid (In.keep ((le_below hb).trans (le_alloc W3 (.cells #[.int .i64 k2, .bool b2, .bool n2, .string ⟨g2.toArray⟩, .int .i64 x2, .string ⟨s2.toArray⟩, .slice A2 l2 p2, .slice B2 m2 z2] 28))) _ _ HN1.out)
  have HX2 := Lib.hid (Blk.new W3 28 #[.int .i64 k2, .bool b2, .bool n2, .string ⟨g2.toArray⟩, .int .i64 x2, .string ⟨s2.toArray⟩, .slice A2 l2 p2, .slice B2 m2 z2])
  have HN2 := Lib.hid (In.keep (le_alloc W3 (.cells #[.int .i64 k2, .bool b2, .bool n2, .string ⟨g2.toArray⟩, .int .i64 x2, .string ⟨s2.toArray⟩, .slice A2 l2 p2, .slice B2 m2 z2] 28)) _ _ hx2)
  replace HB := Lib.hid (HB.out.trans (hb'.mono HB.out.size))
  replace HT := Lib.hid (HT.out.on hb')
  clear hx2 hb hb' HP
  go_upto_region 6 with (fail)
  generalize W3.alloc (.cells #[.int .i64 k2, .bool b2, .bool n2, .string ⟨g2.toArray⟩, .int .i64 x2, .string ⟨s2.toArray⟩, .slice A2 l2 p2, .slice B2 m2 z2] 28) = W4 at *
  go_wp2_with fail
  refine (pick_any n 9 _ (by omega) (by omega)).mono ?_
  rintro e w' ⟨rfl, rfl⟩
  have hj0 : 0 ≤ n % 9 := Int.emod_nonneg _ (by omega)
  have hj1 : n % 9 < 9 := Int.emod_lt_of_pos _ (by omega)
  generalize n % 9 = j at hj0 hj1 ⊢
  have hjl : (blanksL.take j.toNat).length = j.toNat := by rw [List.length_take]; simp [blanksL]; omega
  have hex : (⟨#[32, 9, 10, 13, 32, 9, 10, 13, 32]⟩ : ByteArray).extract 0 j.toNat = ⟨(blanksL.take j.toNat).toArray⟩ := ext_take blanksL j.toNat
  have hbl := blanks_blank j.toNat
  generalize blanksL.take j.toNat = bl at hjl hex hbl
  have HP := Lib.hid (pz_ok (l := (bl ++ s) ++ bl) (Ps.parse_behind hbl (by simp only [List.length_append]; omega) (by rw [Ps.parse_ahead hbl (by rw [List.length_append]; omega)]; exact hA)) (by simp only [List.length_append]; omega) W4 HT.out)
  go_wp2_with fail
  rw [ByteArray.mk_append_mk, ByteArray.mk_append_mk]
  refine HP.out.mono ?_
  rintro e W5 ⟨y3, rfl, hx3, hb⟩
  obtain ⟨k3, b3, n3, g3, x3, s3, A3, l3, p3, B3, m3, z3, rfl⟩ := In.cells hx3
  have hb' := hb.trans (((Below.refl W5.heap.size W5).alloc (Nat.le_refl _) (.cells #[.int .i64 k3, .bool b3, .bool n3, .string ⟨g3.toArray⟩, .int .i64 x3, .string ⟨s3.toArray⟩, .slice A3 l3 p3, .slice B3 m3 z3] 28)).mono hb.size)
  replace HX1 := Lib.hid ((HX1.out.on hb).alloc (.cells #[.int .i64 k3, .bool b3, .bool n3, .string ⟨g3.toArray⟩, .int .i64 x3, .string ⟨s3.toArray⟩, .slice A3 l3 p3, .slice B3 m3 z3] 28))
  replace HN1 := Lib.hid (In.keep ((le_below hb).trans (le_alloc W5 (.cells #[.int .i64 k3, .bool b3, .bool n3, .string ⟨g3.toArray⟩, .int .i64 x3, .string ⟨s3.toArray⟩, .slice A3 l3 p3, .slice B3 m3 z3] 28))) _ _ HN1.out)
  replace HX2 := Lib.hid ((HX2.out.on hb).alloc (.cells #[.int .i64 k3, .bool b3, .bool n3, .string ⟨g3.toArray⟩, .int .i64 x3, .string ⟨s3.toArray⟩, .slice A3 l3 p3, .slice B3 m3 z3] 28))
  replace HN2 := Lib.hid (In.keep ((le_below hb).trans (le_alloc W5 (.cells #[.int .i64 k3, .bool b3, .bool n3, .string ⟨g3.toArray⟩, .int .i64 x3, .string ⟨s3.toArray⟩, .slice A3 l3 p3, .slice B3 m3 z3] 28))) _ _ HN2.out)
  have HX3 := Lib.hid (Blk.new W5 28 #[.int .i64 k3, .bool b3, .bool n3, .string ⟨g3.toArray⟩, .int .i64 x3, .string ⟨s3.toArray⟩, .slice A3 l3 p3, .slice B3 m3 z3])
  have HN3 := Lib.hid (In.keep (le_alloc W5 (.cells #[.int .i64 k3, .bool b3, .bool n3, .string ⟨g3.toArray⟩, .int .i64 x3, .string ⟨s3.toArray⟩, .slice A3 l3 p3, .slice B3 m3 z3] 28)) _ _ hx3)
  replace HB := Lib.hid (HB.out.trans (hb'.mono HB.out.size))
  replace HT := Lib.hid (HT.out.on hb')
  clear hx3 hb hb' HP
  go_upto_region 14 with (fail)
  generalize W5.alloc (.cells #[.int .i64 k3, .bool b3, .bool n3, .string ⟨g3.toArray⟩, .int .i64 x3, .string ⟨s3.toArray⟩, .slice A3 l3 p3, .slice B3 m3 z3] 28) = W6 at *
  obtain ⟨a0, a1, a2, a3, a4, a5, a6, a7⟩ := HX1.out.eight
  obtain ⟨d0, d1, d2, d3, d4, d5, d6, d7⟩ := HX3.out.eight
  have HC := Lib.hid (refSame_on HN1.out HN3.out (same_refl _) _ (Below.refl _ _))
  go_wp2_with fail
  refine HC.out.mono ?_
  rintro e W7 ⟨rfl, hb⟩
  replace HX1 := Lib.hid (HX1.out.on hb)
  replace HN1 := Lib.hid (In.keep (le_below hb) _ _ HN1.out)
  replace HX2 := Lib.hid (HX2.out.on hb)
  replace HN2 := Lib.hid (In.keep (le_below hb) _ _ HN2.out)
  replace HX3 := Lib.hid (HX3.out.on hb)
  replace HN3 := Lib.hid (In.keep (le_below hb) _ _ HN3.out)
  replace HB := Lib.hid (HB.out.trans (hb.mono HB.out.size))
  replace HT := Lib.hid (HT.out.on hb)
  clear hb HC a0 a1 a2 a3 a4 a5 a6 a7 d0 d1 d2 d3 d4 d5 d6 d7
  clear HX3 HN3
  have HP := Lib.hid (pz_ok hL (by simp only [List.length_append, List.length_cons, List.length_nil]; omega) W7 HT.out)
  go_wp2_with fail
  rw [ByteArray.mk_append_mk, ByteArray.mk_append_mk, ByteArray.mk_append_mk, ByteArray.mk_append_mk]
  refine HP.out.mono ?_
  rintro e W9 ⟨y4, rfl, hx4, hb⟩
  obtain ⟨k4, b4, n4, g4, x4, s4, A4, l4, p4, B4, m4, z4, rfl⟩ := In.cells hx4
  have hb' := hb.trans (((Below.refl W9.heap.size W9).alloc (Nat.le_refl _) (.cells #[.int .i64 k4, .bool b4, .bool n4, .string ⟨g4.toArray⟩, .int .i64 x4, .string ⟨s4.toArray⟩, .slice A4 l4 p4, .slice B4 m4 z4] 28)).mono hb.size)
  replace HX1 := Lib.hid ((HX1.out.on hb).alloc (.cells #[.int .i64 k4, .bool b4, .bool n4, .string ⟨g4.toArray⟩, .int .i64 x4, .string ⟨s4.toArray⟩, .slice A4 l4 p4, .slice B4 m4 z4] 28))
  replace HN1 := Lib.hid (In.keep ((le_below hb).trans (le_alloc W9 (.cells #[.int .i64 k4, .bool b4, .bool n4, .string ⟨g4.toArray⟩, .int .i64 x4, .string ⟨s4.toArray⟩, .slice A4 l4 p4, .slice B4 m4 z4] 28))) _ _ HN1.out)
  replace HX2 := Lib.hid ((HX2.out.on hb).alloc (.cells #[.int .i64 k4, .bool b4, .bool n4, .string ⟨g4.toArray⟩, .int .i64 x4, .string ⟨s4.toArray⟩, .slice A4 l4 p4, .slice B4 m4 z4] 28))
  replace HN2 := Lib.hid (In.keep ((le_below hb).trans (le_alloc W9 (.cells #[.int .i64 k4, .bool b4, .bool n4, .string ⟨g4.toArray⟩, .int .i64 x4, .string ⟨s4.toArray⟩, .slice A4 l4 p4, .slice B4 m4 z4] 28))) _ _ HN2.out)
  have HX4 := Lib.hid (Blk.new W9 28 #[.int .i64 k4, .bool b4, .bool n4, .string ⟨g4.toArray⟩, .int .i64 x4, .string ⟨s4.toArray⟩, .slice A4 l4 p4, .slice B4 m4 z4])
  have HN4 := Lib.hid (In.keep (le_alloc W9 (.cells #[.int .i64 k4, .bool b4, .bool n4, .string ⟨g4.toArray⟩, .int .i64 x4, .string ⟨s4.toArray⟩, .slice A4 l4 p4, .slice B4 m4 z4] 28)) _ _ hx4)
  replace HB := Lib.hid (HB.out.trans (hb'.mono HB.out.size))
  replace HT := Lib.hid (HT.out.on hb')
  clear hx4 hb hb' HP
  go_upto_region 18 with (fail)
  generalize W9.alloc (.cells #[.int .i64 k4, .bool b4, .bool n4, .string ⟨g4.toArray⟩, .int .i64 x4, .string ⟨s4.toArray⟩, .slice A4 l4 p4, .slice B4 m4 z4] 28) = W10 at *
  go_upto_region 20 with (fail)
  have HP := Lib.hid (pz_ok hO (by simp only [List.length_append, List.length_cons, List.length_nil]; omega) W10 HT.out)
  go_wp2_with fail
  rw [ByteArray.mk_append_mk, ByteArray.mk_append_mk, ByteArray.mk_append_mk, ByteArray.mk_append_mk]
  refine HP.out.mono ?_
  rintro e W11 ⟨y5, rfl, hx5, hb⟩
  obtain ⟨k5, b5, n5, g5, x5, s5, A5, l5, p5, B5, m5, z5, rfl⟩ := In.cells hx5
  have hb' := hb.trans (((Below.refl W11.heap.size W11).alloc (Nat.le_refl _) (.cells #[.int .i64 k5, .bool b5, .bool n5, .string ⟨g5.toArray⟩, .int .i64 x5, .string ⟨s5.toArray⟩, .slice A5 l5 p5, .slice B5 m5 z5] 28)).mono hb.size)
  replace HX1 := Lib.hid ((HX1.out.on hb).alloc (.cells #[.int .i64 k5, .bool b5, .bool n5, .string ⟨g5.toArray⟩, .int .i64 x5, .string ⟨s5.toArray⟩, .slice A5 l5 p5, .slice B5 m5 z5] 28))
  replace HN1 := Lib.hid (In.keep ((le_below hb).trans (le_alloc W11 (.cells #[.int .i64 k5, .bool b5, .bool n5, .string ⟨g5.toArray⟩, .int .i64 x5, .string ⟨s5.toArray⟩, .slice A5 l5 p5, .slice B5 m5 z5] 28))) _ _ HN1.out)
  replace HX2 := Lib.hid ((HX2.out.on hb).alloc (.cells #[.int .i64 k5, .bool b5, .bool n5, .string ⟨g5.toArray⟩, .int .i64 x5, .string ⟨s5.toArray⟩, .slice A5 l5 p5, .slice B5 m5 z5] 28))
  replace HN2 := Lib.hid (In.keep ((le_below hb).trans (le_alloc W11 (.cells #[.int .i64 k5, .bool b5, .bool n5, .string ⟨g5.toArray⟩, .int .i64 x5, .string ⟨s5.toArray⟩, .slice A5 l5 p5, .slice B5 m5 z5] 28))) _ _ HN2.out)
  replace HX4 := Lib.hid ((HX4.out.on hb).alloc (.cells #[.int .i64 k5, .bool b5, .bool n5, .string ⟨g5.toArray⟩, .int .i64 x5, .string ⟨s5.toArray⟩, .slice A5 l5 p5, .slice B5 m5 z5] 28))
  replace HN4 := Lib.hid (In.keep ((le_below hb).trans (le_alloc W11 (.cells #[.int .i64 k5, .bool b5, .bool n5, .string ⟨g5.toArray⟩, .int .i64 x5, .string ⟨s5.toArray⟩, .slice A5 l5 p5, .slice B5 m5 z5] 28))) _ _ HN4.out)
  have HX5 := Lib.hid (Blk.new W11 28 #[.int .i64 k5, .bool b5, .bool n5, .string ⟨g5.toArray⟩, .int .i64 x5, .string ⟨s5.toArray⟩, .slice A5 l5 p5, .slice B5 m5 z5])
  have HN5 := Lib.hid (In.keep (le_alloc W11 (.cells #[.int .i64 k5, .bool b5, .bool n5, .string ⟨g5.toArray⟩, .int .i64 x5, .string ⟨s5.toArray⟩, .slice A5 l5 p5, .slice B5 m5 z5] 28)) _ _ hx5)
  replace HB := Lib.hid (HB.out.trans (hb'.mono HB.out.size))
  replace HT := Lib.hid (HT.out.on hb')
  clear hx5 hb hb' HP
  go_upto_region 21 with (fail)
  generalize W11.alloc (.cells #[.int .i64 k5, .bool b5, .bool n5, .string ⟨g5.toArray⟩, .int .i64 x5, .string ⟨s5.toArray⟩, .slice A5 l5 p5, .slice B5 m5 z5] 28) = W12 at *
  obtain ⟨c0, c1, c2, c3, c4, c5, c6, c7⟩ := HX4.out.eight
  obtain ⟨d0, d1, d2, d3, d4, d5, d6, d7⟩ := HX1.out.eight
  obtain ⟨e0, e1, e2, e3, e4, e5, e6, e7⟩ := HX2.out.eight
  have HC := Lib.hid (refSame_on (In.keep (le_alloc W12 (.cells #[.int .i64 k1, .bool b1, .bool n1, .string ⟨g1.toArray⟩, .int .i64 x1, .string ⟨s1.toArray⟩, .slice A1 l1 p1, .slice B1 m1 z1, .int .i64 k2, .bool b2, .bool n2, .string ⟨g2.toArray⟩, .int .i64 x2, .string ⟨s2.toArray⟩, .slice A2 l2 p2, .slice B2 m2 z2] 28)) _ _ HN4.out) (pair_in (T := 28) HN1.out HN2.out) (same_refl _) _ (Below.refl _ _))
  go_wp2_with fail
  refine HC.out.mono ?_
  rintro e W13 ⟨rfl, hb⟩
  replace hb := ((Below.refl W12.heap.size W12).alloc (Nat.le_refl _) (.cells #[.int .i64 k1, .bool b1, .bool n1, .string ⟨g1.toArray⟩, .int .i64 x1, .string ⟨s1.toArray⟩, .slice A1 l1 p1, .slice B1 m1 z1, .int .i64 k2, .bool b2, .bool n2, .string ⟨g2.toArray⟩, .int .i64 x2, .string ⟨s2.toArray⟩, .slice A2 l2 p2, .slice B2 m2 z2] 28)).trans (hb.mono (by simp))
  replace HX1 := Lib.hid (HX1.out.on hb)
  replace HN1 := Lib.hid (In.keep (le_below hb) _ _ HN1.out)
  replace HX2 := Lib.hid (HX2.out.on hb)
  replace HN2 := Lib.hid (In.keep (le_below hb) _ _ HN2.out)
  replace HX4 := Lib.hid (HX4.out.on hb)
  replace HN4 := Lib.hid (In.keep (le_below hb) _ _ HN4.out)
  replace HX5 := Lib.hid (HX5.out.on hb)
  replace HN5 := Lib.hid (In.keep (le_below hb) _ _ HN5.out)
  replace HB := Lib.hid (HB.out.trans (hb.mono HB.out.size))
  replace HT := Lib.hid (HT.out.on hb)
  clear hb HC c0 c1 c2 c3 c4 c5 c6 c7 d0 d1 d2 d3 d4 d5 d6 d7 e0 e1 e2 e3 e4 e5 e6 e7
  obtain ⟨c0, c1, c2, c3, c4, c5, c6, c7⟩ := HX5.out.eight
  obtain ⟨d0, d1, d2, d3, d4, d5, d6, d7⟩ := HX1.out.eight
  obtain ⟨e0, e1, e2, e3, e4, e5, e6, e7⟩ := HX2.out.eight
  have HC := Lib.hid (refSame_on (In.keep (le_alloc W13 (.cells #[.string ⟨#[120]⟩, .int .i64 k2, .bool b2, .bool n2, .string ⟨g2.toArray⟩, .int .i64 x2, .string ⟨s2.toArray⟩, .slice A2 l2 p2, .slice B2 m2 z2, .string ⟨#[121]⟩, .int .i64 k1, .bool b1, .bool n1, .string ⟨g1.toArray⟩, .int .i64 x1, .string ⟨s1.toArray⟩, .slice A1 l1 p1, .slice B1 m1 z1] 41)) _ _ HN5.out) (mems_in (T := 41) HN1.out HN2.out) (same_refl _) _ (Below.refl _ _))
  go_wp2_with fail
  refine HC.out.mono ?_
  rintro e W15 ⟨rfl, hb⟩
  replace hb := ((Below.refl W13.heap.size W13).alloc (Nat.le_refl _) (.cells #[.string ⟨#[120]⟩, .int .i64 k2, .bool b2, .bool n2, .string ⟨g2.toArray⟩, .int .i64 x2, .string ⟨s2.toArray⟩, .slice A2 l2 p2, .slice B2 m2 z2, .string ⟨#[121]⟩, .int .i64 k1, .bool b1, .bool n1, .string ⟨g1.toArray⟩, .int .i64 x1, .string ⟨s1.toArray⟩, .slice A1 l1 p1, .slice B1 m1 z1] 41)).trans (hb.mono (by simp))
  replace HX1 := Lib.hid (HX1.out.on hb)
  replace HN1 := Lib.hid (In.keep (le_below hb) _ _ HN1.out)
  replace HX2 := Lib.hid (HX2.out.on hb)
  replace HN2 := Lib.hid (In.keep (le_below hb) _ _ HN2.out)
  replace HX4 := Lib.hid (HX4.out.on hb)
  replace HN4 := Lib.hid (In.keep (le_below hb) _ _ HN4.out)
  replace HX5 := Lib.hid (HX5.out.on hb)
  replace HN5 := Lib.hid (In.keep (le_below hb) _ _ HN5.out)
  replace HB := Lib.hid (HB.out.trans (hb.mono HB.out.size))
  replace HT := Lib.hid (HT.out.on hb)
  clear hb HC c0 c1 c2 c3 c4 c5 c6 c7 d0 d1 d2 d3 d4 d5 d6 d7 e0 e1 e2 e3 e4 e5 e6 e7
  go_wp2_with fail
  go_ret
  exact ⟨rfl, HB.out⟩

theorem parseBlanks_any (s t : ByteArray) (n : Int) (w : World) (hT : Tabs w) (hs : s.size ≤ 1000000000000000000) (ht : t.size ≤ 1000000000000000000) :
    Calls Tryz.prog 4 #[.string s, .string t, .int .i64 n] w fun e w' => e = .returned (.bool true) ∧ Below w.heap.size w w' := by
  by_cases hl : s.size ≤ 1000 ∧ t.size ≤ 1000
  · obtain ⟨ls, lt⟩ := hl
    have e : ∀ x : ByteArray, x = ⟨x.data.toList.toArray⟩ := fun x => (Lib.mk_data x).symm
    rw [e s, e t]
    rw [Lib.size_eq] at ls lt
    generalize s.data.toList = s at ls
    generalize t.data.toList = t at lt
    cases hA : Ps.parse s with
    | bad ca la => exact blanks_bad s t n w hT ls lt hA
    | ok va ua =>
      cases hB : Ps.parse t with
      | bad cb lb => exact blanks_one s t n w hT ls lt hA hB
      | ok vb ub =>
        have hp1 := Ps.parse_list hA hB (3 * (s.length + t.length) + 40) (Nat.le_refl _) (by omega)
        have hp2 := Ps.parse_pair hA hB (3 * (s.length + t.length) + 40) (Nat.le_refl _) (by omega)
        have e1 : ((([91] ++ s) ++ [44]) ++ t) ++ [93] = 91 :: (s ++ 44 :: (t ++ [93])) := by simp
        have e2 : ((([123, 34, 121, 34, 58] ++ s) ++ [44, 34, 120, 34, 58]) ++ t) ++ [125] = [123, 34, 121, 34, 58] ++ (s ++ (([44, 34, 120, 34, 58] : List UInt8) ++ (t ++ [125]))) := by simp
        by_cases hd : (∃ l, Ps.value (3 * (s.length + t.length) + 40) 1 s = .bad 3 l) ∨ (∃ l, Ps.value (3 * (s.length + t.length) + 40) 1 t = .bad 3 l)
        · obtain ⟨l4, h4⟩ := hp1.1 hd
          obtain ⟨l5, h5⟩ := hp2.1 hd
          exact blanks_deep s t n w hT ls lt hA hB (by rw [e1]; exact h4) (by rw [e2]; exact h5)
        · have h1 := fun h => hd (.inl h)
          have h2 := fun h => hd (.inr h)
          exact blanks_both s t n w hT ls lt hA hB (by rw [e1]; exact hp1.2 h1 h2) (by rw [e2]; exact hp2.2 h1 h2)
  · exact blanks_long s t n w hT hs ht (by omega)

end Go.Proofs.YtnnklbfpgmndoaaGreatDoor

