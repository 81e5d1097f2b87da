/- The laws of layer 8 (patch): PatchMore. -/
import Derived.Test.YtkhplaknogalgaaDoorAo
import Derived.Test.YtkhplaknogalgaaDoorAl
import Derived.Test.YtkhplaknogalgaaDoorJl
import Derived.Test.YtkhplaknogalgaaDoorLa
import Derived.Test.YtkhplaknogalgaaDoorJn
import Derived.Deep.CutRange
import Derived.Deep.RegionLaw
namespace Go.Proofs.YtkhplaknogalgaaDoor
open Go.RowKit Pt Js Oq

theorem cat_lists' (W : World) {a b c : List UInt8} (hc : a ++ b = c) (h : a.length + b.length ≤ 9223372036854775807) : (Op.stringOp .add ⟨a.toArray⟩ ⟨b.toArray⟩).run Tryd.prog W = .ok (.string ⟨c.toArray⟩) W := by
  rw [cat_lists W a b h, hc]
/-- A value in a block of its own. -/
def Bx8 (w : World) (g : Nat) (v : Vl) (cs : Array Value) : Prop := Blk w g 28 cs ∧ v.In w.cell? (.agg cs)
theorem Bx8.on {w w' : World} {g : Nat} {v : Vl} {cs : Array Value} (h : Bx8 w g v cs) (hb : Below w.heap.size w w') : Bx8 w' g v cs := ⟨h.1.on hb, In.keep (le_below hb) _ _ h.2⟩
theorem Bx8.new {w : World} {v : Vl} {cs : Array Value} (h : v.In w.cell? (.agg cs)) : Bx8 (w.alloc (.cells cs 28)) w.heap.size v cs := ⟨Blk.new _ _ _, In.keep (le_alloc _ _) _ _ h⟩

/-- What the law holds of two patches: their values, in their blocks; their operations. -/
structure Two8 (w : World) (gA gB : Nat) (va vb : Vl) (cA cB : Array Value) (la lb : List Opn) (A1 A2 : Option Addr) (wr : World) : Prop where
  a : Bx8 wr gA va cA
  b : Bx8 wr gB vb cB
  l : SlO wr.cell? A1 la
  m : SlO wr.cell? A2 lb
  below : Below w.heap.size w wr
theorem Two8.on {w wr w' : World} {gA gB : Nat} {va vb : Vl} {cA cB : Array Value} {la lb : List Opn} {A1 A2 : Option Addr} (h : Two8 w gA gB va vb cA cB la lb A1 A2 wr) (hb : Below wr.heap.size wr w') : Two8 w gA gB va vb cA cB la lb A1 A2 w' :=
  ⟨h.a.on hb, h.b.on hb, h.l.keep (le_below hb), h.m.keep (le_below hb), h.below.trans (hb.mono h.below.size)⟩

theorem bad_code {v : Vl} {c i : Nat} (h : Oq.read v = .bad c i) : (c : Int) ≠ 0 := by have := (read_code h).1; omega
theorem Told8.ok {v : Vl} {r : Oq.Rd} {l : List Opn} {a : Int} (h : Told8 r l 0 a) (hr : Oq.read v = r) : Oq.read v = .ok l := by
  rcases h with ⟨h1, _, _⟩ | ⟨c, i, h1, h2, _⟩
  · rw [hr, h1]
  · exact absurd h2.symm (bad_code (hr.trans h1))

set_option linter.unusedVariables false in
set_option linter.unusedSimpArgs false in
set_option maxRecDepth 100000 in
set_option maxHeartbeats 8000000 in
theorem patchMore_any (s t : ByteArray) (key : List UInt8) (w : World) (hT : MaxT w) (hs : s.size ≤ 1000000000000000000) (ht : t.size ≤ 1000000000000000000) (hk : key.length ≤ 1000000000000000000) :
    Calls Tryd.prog 4 #[.string s, .string t, .string ⟨key.toArray⟩] w fun e w' => e = .returned (.bool true) ∧ Below w.heap.size w w' := by
  have HU := Lib.hid (up8_any w hT)
  have HT := Lib.hid hT
  clear hT
  go_enter Tryd.func4, Tryd.ntmps4
  go_wp2_with fail
  refine HU.out.mono ?_
  rintro e0 w0 ⟨rfl, hb0⟩
  have HB0 := Lib.hid hb0
  have HVA := Lib.hid (value_told s hs w0)
  clear hb0 HU
  go_wp2_with fail
  refine HVA.out.mono ?_
  rintro e1 w1 ⟨va, xa, ca, rfl, hxa, hb1, hca⟩
  obtain ⟨k_1, k_2, k_3, k_4, k_5, k_6, k_7, k_8, k_9, k_a, k_b, k_c, rfl⟩ := In.cells hxa
  have HA1 := Lib.hid (Bx8.new hxa)
  have hb1a := hb1.alloc hb1.size (.cells #[.int .i64 k_1, .bool k_2, .bool k_3, .string ⟨k_4.toArray⟩, .int .i64 k_5, .string ⟨k_6.toArray⟩, .slice k_7 k_8 k_9, .slice k_a k_b k_c] 28)
  have HB1 := Lib.hid (HB0.out.trans (hb1a.mono HB0.out.size))
  have HCA := Lib.hid hca
  clear hxa hb1 hb1a hca HVA HB0
  go_upto_region 3 with (fail)
  generalize w1.alloc (.cells #[.int .i64 k_1, .bool k_2, .bool k_3, .string ⟨k_4.toArray⟩, .int .i64 k_5, .string ⟨k_6.toArray⟩, .slice k_7 k_8 k_9, .slice k_a k_b k_c] 28) = wa at *
  generalize w1.heap.size = gA at *
  have HVB := Lib.hid (value_told t ht wa)
  go_wp2_with fail
  refine HVB.out.mono ?_
  rintro e2 w2 ⟨vb, xb, cb, rfl, hxb, hb2, hcb⟩
  obtain ⟨m_1, m_2, m_3, m_4, m_5, m_6, m_7, m_8, m_9, m_a, m_b, m_c, rfl⟩ := In.cells hxb
  have HB2 := Lib.hid (Bx8.new hxb)
  have hb2a := hb2.alloc hb2.size (.cells #[.int .i64 m_1, .bool m_2, .bool m_3, .string ⟨m_4.toArray⟩, .int .i64 m_5, .string ⟨m_6.toArray⟩, .slice m_7 m_8 m_9, .slice m_a m_b m_c] 28)
  have HA2 := Lib.hid (HA1.out.on hb2a)
  have HBB := Lib.hid (HB1.out.trans (hb2a.mono HB1.out.size))
  have HCB := Lib.hid hcb
  clear hxb hb2 hb2a hcb HVB HB1 HA1
  go_upto_region 4 with (fail)
  generalize w2.alloc (.cells #[.int .i64 m_1, .bool m_2, .bool m_3, .string ⟨m_4.toArray⟩, .int .i64 m_5, .string ⟨m_6.toArray⟩, .slice m_7 m_8 m_9, .slice m_a m_b m_c] 28) = wb at *
  generalize w2.heap.size = gB at *
  have HTX := Lib.hid (text_any ⟨key.toArray⟩ wb (by rw [Lib.size_mk]; exact hk))
  generalize St.text (⟨key.toArray⟩ : ByteArray).data.toList = tx at HTX
  go_wp2_with fail
  refine HTX.out.mono ?_
  rintro e3 w3 ⟨rfl, rfl⟩
  clear HTX
  rcases HCA.out with rfl | ⟨rfl, hfa⟩
  · go_wp2_with fail
    go_ret
    exact ⟨rfl, HBB.out⟩
  rcases HCB.out with rfl | ⟨rfl, hfb⟩
  · go_wp2_with fail
    go_ret
    exact ⟨rfl, HBB.out⟩
  by_cases hkl : 100 < key.length
  · have hkd : decide ((100 : Int) < (key.length : Int)) = true := by simp; omega
    go_wp2_with fail
    go_ret
    exact ⟨rfl, HBB.out⟩
  have hkd : decide ((100 : Int) < (key.length : Int)) = false := by simp; omega
  cases tx with
  | false =>
    go_wp2_with fail
    go_ret
    exact ⟨rfl, HBB.out⟩
  | true =>
  have HFA := Lib.hid hfa
  have HFB := Lib.hid hfb
  clear hfa hfb HCA HCB
  have HR1 := Lib.hid (readF_any va _ wb (HT.out.on HBB.out) (fit_fine HFA.out) HA2.out.2)
  have HR2 := Lib.hid (fun W (h : Below wb.heap.size wb W) => readF_any vb _ W (HT.out.on (HBB.out.trans (h.mono HBB.out.size))) (fit_fine HFB.out) (In.keep (le_below h) _ _ HB2.out.2))
  obtain ⟨ra, hra⟩ : ∃ r, Oq.read va = r := ⟨_, rfl⟩
  obtain ⟨rb, hrb⟩ : ∃ r, Oq.read vb = r := ⟨_, rfl⟩
  have HRA := Lib.hid hra
  have HRB := Lib.hid hrb
  rw [hra] at HR1
  rw [hrb] at HR2
  clear hra hrb
  obtain ⟨a0, a1, a2, a3, a4, a5, a6, a7⟩ := HA2.out.1.eight
  go_wp2_with fail
  refine HR1.out.mono ?_
  intro e4 w4 h4
  obtain ⟨la, A1, c1, eva, ka, aa, rfl, htla, hspa, hsla, hc1, hc1m, hb4⟩ := read_parts h4
  have HSL := Lib.hid hsla
  have HA4 := Lib.hid (HA2.out.on hb4)
  have HB4 := Lib.hid (HB2.out.on hb4)
  have HBW := Lib.hid (HBB.out.trans (hb4.mono HBB.out.size))
  have HR24 := Lib.hid (HR2.out _ hb4)
  have HTLA := Lib.hid htla
  have HSPA := Lib.hid hspa
  clear hsla hb4 h4 htla hspa HR1 HR2 HA2 HB2 HBB a0 a1 a2 a3 a4 a5 a6 a7
  obtain ⟨a0, a1, a2, a3, a4, a5, a6, a7⟩ := HB4.out.1.eight
  go_wp2_with fail
  refine HR24.out.mono ?_
  intro e5 w5 h5
  obtain ⟨lb, A2, c2, evb, kb, ab, rfl, htlb, hspb, hslb, hc2, hc2m, hb5⟩ := read_parts h5
  have HTLB := Lib.hid htlb
  have HSPB := Lib.hid hspb
  have HTW := Lib.hid (show Two8 w gA gB va vb #[.int .i64 k_1, .bool k_2, .bool k_3, .string ⟨k_4.toArray⟩, .int .i64 k_5, .string ⟨k_6.toArray⟩, .slice k_7 k_8 k_9, .slice k_a k_b k_c] #[.int .i64 m_1, .bool m_2, .bool m_3, .string ⟨m_4.toArray⟩, .int .i64 m_5, .string ⟨m_6.toArray⟩, .slice m_7 m_8 m_9, .slice m_a m_b m_c] la lb A1 A2 w5 from ⟨HA4.out.on hb5, HB4.out.on hb5, HSL.out.keep (le_below hb5), hslb, HBW.out.trans (hb5.mono HBW.out.size)⟩)
  clear hslb hb5 h5 htlb hspb HR24 HA4 HB4 HSL HBW a0 a1 a2 a3 a4 a5 a6 a7
  rcases HSPA.out with ⟨rfl, rfl, rfl⟩ | ⟨b1, rfl, _⟩
  case inr =>
    go_wp2_with fail
    go_ret
    exact ⟨rfl, HTW.out.below⟩
  rcases HSPB.out with ⟨rfl, rfl, rfl⟩ | ⟨b1, rfl, _⟩
  case inr =>
    go_wp2_with fail
    go_ret
    exact ⟨rfl, HTW.out.below⟩
  have HOA := Lib.hid (HTLA.out.ok HRA.out)
  have HOB := Lib.hid (HTLB.out.ok HRB.out)
  clear HTLA HTLB HSPA HSPB HRA HRB
  obtain ⟨ba, na, sa, La, ma, hva, hLa, hMA⟩ := read_inv HOA.out
  subst hva
  obtain ⟨bb, nb, sb, Lb, mb, hvb, hLb, hMB⟩ := read_inv HOB.out
  subst hvb
  obtain ⟨e8a, h9a, h9am, hslA⟩ := In.slice HTW.out.a.2
  subst e8a
  obtain ⟨e8b, h9b, h9bm, hslB⟩ := In.slice HTW.out.b.2
  subst e8b
  have HSLA := Lib.hid hslA
  have HMA := Lib.hid hMA
  have HMB := Lib.hid hMB
  have hla : la.length = La.length := map_len hMA
  have hlb : lb.length = Lb.length := map_len hMB
  obtain ⟨fA, kA, xA⟩ := SlV_flat (S := fun b => b < w5.heap.size) (SlL.keep (le_whole w5) hslA)
  obtain ⟨fB, kB, xB⟩ := SlV_flat (S := fun b => b < w5.heap.size) (SlL.keep (le_whole w5) hslB)
  have HLFA := Lib.hid kA.1
  have HLFB := Lib.hid kB.1
  have HONEA := Lib.hid kA.2.1
  have HONEB := Lib.hid kB.2.1
  have HSA := Lib.hid xA
  have HSB := Lib.hid xB
  have HFLAT := Lib.hid (kA.append kB)
  have HLENS := Lib.hid (And.intro hla hlb)
  unfold maxLen at h9am h9bm hc1m hc2m
  clear hslA hslB kA kB xA xB hMA hMB hla hlb HOA HOB
  have H0 := Lib.hid (show Held11 gA gB (.slice k_7 La.length k_9) (.slice m_7 Lb.length m_9) w5 w5 from ⟨HTW.out.a.1.cell 6, HTW.out.b.1.cell 6, Below.refl _ _, HTW.out.a.1.lt, HTW.out.b.1.lt⟩)
  obtain ⟨i0, hi0, hz0, hz1, hz2⟩ := infoV'
  go_upto_region 11 with (fail)
  go_cut [17] from 72 to 72 (fun v17 wc => ∃ (g17 : Nat) (A17 : Option Addr) (c17 : Nat), v17 = .pointer (some ⟨g17, 0, none⟩) ∧ Fin11 w5 La Lb g17 A17 c17 wc)
  case first =>
    -- R11
    refine wp_region_held_drew (S := Held11 gA gB (.slice k_7 La.length k_9) (.slice m_7 Lb.length m_9) w5) (by kernel_rfl) H0.out.drew (fun ht => ?_)
    refine wpAnyH_take (i := 1) (oi := ⟨some _, _, _, _, _, _⟩) (v := (.pointer (some ⟨gA, 6, none⟩))) rfl (by kernel_rfl) (by kernel_rfl) (by kernel_rfl) (fun _ _ _ h => h) (Or.inl ⟨by rfl, ?_⟩) ht ?_
    · intro W9 hSw
      obtain ⟨cA, cB, cb⟩ := hSw
      go_simp
    try simp only [Act.put, List.setIfInBounds_toArray, List.set_cons_zero, List.set_cons_succ]
    refine wpAnyH_take (i := 2) (oi := ⟨some _, _, _, _, _, _⟩) (v := (.slice k_7 La.length k_9)) rfl (by kernel_rfl) (by kernel_rfl) (by kernel_rfl) (fun _ _ _ h => h) (Or.inl ⟨by rfl, ?_⟩) ht ?_
    · intro W9 hSw
      obtain ⟨cA, cB, cb⟩ := hSw
      go_simp
    try simp only [Act.put, List.setIfInBounds_toArray, List.set_cons_zero, List.set_cons_succ]
    refine wpAnyH_take (i := 4) (oi := ⟨some _, _, _, _, _, _⟩) (v := (.pointer (some ⟨gB, 6, none⟩))) rfl (by kernel_rfl) (by kernel_rfl) (by kernel_rfl) (fun _ _ _ h => h) (Or.inl ⟨by rfl, ?_⟩) ht ?_
    · intro W9 hSw
      obtain ⟨cA, cB, cb⟩ := hSw
      go_simp
    try simp only [Act.put, List.setIfInBounds_toArray, List.set_cons_zero, List.set_cons_succ]
    refine wpAnyH_take (i := 5) (oi := ⟨some _, _, _, _, _, _⟩) (v := (.slice m_7 Lb.length m_9)) rfl (by kernel_rfl) (by kernel_rfl) (by kernel_rfl) (fun _ _ _ h => h) (Or.inl ⟨by rfl, ?_⟩) ht ?_
    · intro W9 hSw
      obtain ⟨cA, cB, cb⟩ := hSw
      go_simp
    try simp only [Act.put, List.setIfInBounds_toArray, List.set_cons_zero, List.set_cons_succ]
    refine wpAnyH_ready (rs := [0, 8]) (by kernel_rfl) (by simp) ?_
    refine AllReadyH.cons (o := ⟨some _, _, _, _, _, _⟩) rfl (fun K hK => ?_) (AllReadyH.cons (o := ⟨some _, _, _, _, _, _⟩) rfl (fun K hK => ?_) (AllReadyH.nil))
    · go_simp
      refine via_world (K := K) (fun W9 => Held11 gA gB (.slice k_7 La.length k_9) (.slice m_7 Lb.length m_9) w5 W9 ∧ W9.ownsRow w5.heap.size 28 8 (.slice (some ⟨w5.heap.size, 0, none⟩) 0 0) 0 []) ⟨Held11.alloc ht _, World.ownsRow_lit w5.drew #[] 0 ht.2.2.1.size (by unfold maxLen; omega) rfl⟩ ?_
      rintro x1 ⟨ht1, hown⟩
      have HO1 := Lib.hid hown
      clear hown
      refine hK.out _ _ ht1 (fun ht => ?_)
      clear hK K ht1
      try simp only [Act.put, List.setIfInBounds_toArray, List.set_cons_zero, List.set_cons_succ]
      refine wpAnyH_ready (rs := [3, 8]) (by kernel_rfl) (by simp) ?_
      refine AllReadyH.cons (o := ⟨some _, _, _, _, _, _⟩) rfl (fun K hK => ?_) (AllReadyH.cons (o := ⟨some _, _, _, _, _, _⟩) rfl (fun K hK => ?_) (AllReadyH.nil))
      · refine step_append_srcx _ rfl _ _ _ rfl w5.heap.size 28 i0 _ 8 112 Tryd.underlying25 hi0 hz0 hz1 hz2 rfl (by omega) (.slice (some ⟨w5.heap.size, 0, none⟩) 0 0) 0 [] rfl HO1.out k_7 La.length k_9 fA rfl HLFA.out ((HSA.out.keep ht.2.2.1)) HONEA.out (by unfold maxLen; omega) (by omega) ht.2.2.1.size La.length (by omega) ?_
        intro A2 c2 x2 hown hgr hat
        have ht1 : Held11 gA gB (.slice k_7 La.length k_9) (.slice m_7 Lb.length m_9) w5 x2 := Held11.grown ht HO1.out hgr
        have HO2 := Lib.hid hown
        clear hown hgr hat
        refine hK.out _ _ ht1 (fun ht => ?_)
        clear hK K ht1
        try simp only [Act.put, List.setIfInBounds_toArray, List.set_cons_zero, List.set_cons_succ]
        refine wpAnyH_ready (rs := [6, 8]) (by kernel_rfl) (by simp) ?_
        refine AllReadyH.cons (o := ⟨some _, _, _, _, _, _⟩) rfl (fun K hK => ?_) (AllReadyH.cons (o := ⟨some _, _, _, _, _, _⟩) rfl (fun K hK => ?_) (AllReadyH.nil))
        · refine step_append_srcx _ rfl _ _ _ rfl w5.heap.size 28 i0 _ 8 112 Tryd.underlying25 hi0 hz0 hz1 hz2 rfl (by omega) (.slice A2 La.length c2) La.length ([] ++ fA) rfl HO2.out m_7 Lb.length m_9 fB rfl HLFB.out ((HSB.out.keep ht.2.2.1)) HONEB.out (by unfold maxLen; omega) (by omega) ht.2.2.1.size (La.length + Lb.length) (by omega) ?_
          intro A3 c3 x3 hown hgr hat
          have ht1 : Held11 gA gB (.slice k_7 La.length k_9) (.slice m_7 Lb.length m_9) w5 x3 := Held11.grown ht HO2.out hgr
          have HO3 := Lib.hid hown
          clear hown hgr hat
          refine hK.out _ _ ht1 (fun ht => ?_)
          clear hK K ht1
          try simp only [Act.put, List.setIfInBounds_toArray, List.set_cons_zero, List.set_cons_succ]
          refine wpAnyH_take (i := 7) (oi := ⟨some _, _, _, _, _, _⟩) (v := (.agg #[.int .i64 4, .bool false, .bool false, .string ⟨#[]⟩, .int .i64 0, .string ⟨#[]⟩, .slice A3 (La.length + Lb.length) c3, .slice none 0 0])) rfl (by kernel_rfl) (by kernel_rfl) (by kernel_rfl) (fun _ _ _ h => h) (Or.inl ⟨by rfl, ?_⟩) ht ?_
          · intro W9 hSw
            obtain ⟨cA, cB, cb⟩ := hSw
            go_simp
          try simp only [Act.put, List.setIfInBounds_toArray, List.set_cons_zero, List.set_cons_succ]
          refine wpAnyH_ready (rs := [8]) (by kernel_rfl) (by simp) ?_
          refine AllReadyH.cons (o := ⟨some _, _, _, _, _, _⟩) rfl (fun K hK => ?_) (AllReadyH.nil)
          · go_simp
            refine via_world (K := K) (fun W9 => Held11 gA gB (.slice k_7 La.length k_9) (.slice m_7 Lb.length m_9) w5 W9 ∧ ZAt W9 w5.heap.size x3.heap.size A3 ∧ W9.ownsRow w5.heap.size 28 8 (.slice A3 (La.length + Lb.length) c3) (La.length + Lb.length) ([] ++ fA ++ fB)) ⟨Held11.alloc ht _, ZAt.new (w := x3) ht.2.2.1.size (own_lt HO3.out), HO3.out.alloc _⟩ ?_
            rintro x4 ⟨ht1, hz, hown⟩
            have HZ4 := Lib.hid hz
            have HO4 := Lib.hid hown
            clear hz hown
            refine hK.out _ _ ht1 (fun ht => ?_)
            clear hK K ht1
            try simp only [Act.put, List.setIfInBounds_toArray, List.set_cons_zero, List.set_cons_succ]
            refine wpAnyH_ready (rs := [9]) (by kernel_rfl) (by simp) ?_
            refine AllReadyH.cons (o := ⟨none, _, _, _, _, _⟩) rfl (fun K hK => ?_) (AllReadyH.nil)
            · obtain ⟨z0, z1, z2, z3, z4, z5, z6, z7⟩ := HZ4.out.blk.eight
              have zf := HZ4.out.blk.frozen
              have zl := HZ4.out.blk.lt
              go_simp
              refine via_world (K := K) (fun W9 => Held11 gA gB (.slice k_7 La.length k_9) (.slice m_7 Lb.length m_9) w5 W9 ∧ Fin11 w5 La Lb x3.heap.size A3 c3 W9) ⟨Held11.set8 ht HZ4.out.ge _ _ _ _ _ _ _ _, fin11 HFLAT.out HO4.out HZ4.out ht.2.2.1⟩ ?_
              rintro x5 ⟨ht1, hfin⟩
              have HFIN := Lib.hid hfin
              clear hfin z0 z1 z2 z3 z4 z5 z6 z7 zf zl
              refine hK.out _ _ ht1 (fun ht => ?_)
              clear hK K ht1
              try simp only [Act.put, List.setIfInBounds_toArray, List.set_cons_zero, List.set_cons_succ]
              refine wpAnyH_done (by kernel_rfl) ?_ _
              clear ht
              go_wp2_with fail
              go_meet
              case rel => exact ⟨x3.heap.size, A3, c3, rfl, HFIN.out⟩
        · go_simp
          refine via_world (K := K) (fun W9 => Held11 gA gB (.slice k_7 La.length k_9) (.slice m_7 Lb.length m_9) w5 W9 ∧ ZAt W9 w5.heap.size x2.heap.size A2 ∧ W9.ownsRow w5.heap.size 28 8 (.slice A2 La.length c2) La.length ([] ++ fA)) ⟨Held11.alloc ht _, ZAt.new (w := x2) ht.2.2.1.size (own_lt HO2.out), HO2.out.alloc _⟩ ?_
          rintro x6 ⟨ht1, hz, hown⟩
          have HZ6 := Lib.hid hz
          have HO6 := Lib.hid hown
          clear hz hown
          refine hK.out _ _ ht1 (fun ht => ?_)
          clear hK K ht1
          try simp only [Act.put, List.setIfInBounds_toArray, List.set_cons_zero, List.set_cons_succ]
          refine wpAnyH_ready (rs := [6]) (by kernel_rfl) (by simp) ?_
          refine AllReadyH.cons (o := ⟨some _, _, _, _, _, _⟩) rfl (fun K hK => ?_) (AllReadyH.nil)
          · refine step_append_srcx _ rfl _ _ _ rfl w5.heap.size 28 i0 _ 8 112 Tryd.underlying25 hi0 hz0 hz1 hz2 rfl (by omega) (.slice A2 La.length c2) La.length ([] ++ fA) rfl HO6.out m_7 Lb.length m_9 fB rfl HLFB.out ((HSB.out.keep ht.2.2.1)) HONEB.out (by unfold maxLen; omega) (by omega) ht.2.2.1.size (La.length + Lb.length) (by omega) ?_
            intro A7 c7 x7 hown hgr hat
            have ht1 : Held11 gA gB (.slice k_7 La.length k_9) (.slice m_7 Lb.length m_9) w5 x7 := Held11.grown ht HO6.out hgr
            have HO7 := Lib.hid hown
            have HZ7 := Lib.hid (ZAt.grown HZ6.out hgr hat)
            clear hown hgr hat
            refine hK.out _ _ ht1 (fun ht => ?_)
            clear hK K ht1
            try simp only [Act.put, List.setIfInBounds_toArray, List.set_cons_zero, List.set_cons_succ]
            refine wpAnyH_take (i := 7) (oi := ⟨some _, _, _, _, _, _⟩) (v := (.agg #[.int .i64 4, .bool false, .bool false, .string ⟨#[]⟩, .int .i64 0, .string ⟨#[]⟩, .slice A7 (La.length + Lb.length) c7, .slice none 0 0])) rfl (by kernel_rfl) (by kernel_rfl) (by kernel_rfl) (fun _ _ _ h => h) (Or.inl ⟨by rfl, ?_⟩) ht ?_
            · intro W9 hSw
              obtain ⟨cA, cB, cb⟩ := hSw
              go_simp
            try simp only [Act.put, List.setIfInBounds_toArray, List.set_cons_zero, List.set_cons_succ]
            refine wpAnyH_ready (rs := [9]) (by kernel_rfl) (by simp) ?_
            refine AllReadyH.cons (o := ⟨none, _, _, _, _, _⟩) rfl (fun K hK => ?_) (AllReadyH.nil)
            · obtain ⟨z0, z1, z2, z3, z4, z5, z6, z7⟩ := HZ7.out.blk.eight
              have zf := HZ7.out.blk.frozen
              have zl := HZ7.out.blk.lt
              go_simp
              refine via_world (K := K) (fun W9 => Held11 gA gB (.slice k_7 La.length k_9) (.slice m_7 Lb.length m_9) w5 W9 ∧ Fin11 w5 La Lb x2.heap.size A7 c7 W9) ⟨Held11.set8 ht HZ7.out.ge _ _ _ _ _ _ _ _, fin11 HFLAT.out HO7.out HZ7.out ht.2.2.1⟩ ?_
              rintro x8 ⟨ht1, hfin⟩
              have HFIN := Lib.hid hfin
              clear hfin z0 z1 z2 z3 z4 z5 z6 z7 zf zl
              refine hK.out _ _ ht1 (fun ht => ?_)
              clear hK K ht1
              try simp only [Act.put, List.setIfInBounds_toArray, List.set_cons_zero, List.set_cons_succ]
              refine wpAnyH_done (by kernel_rfl) ?_ _
              clear ht
              go_wp2_with fail
              go_meet
              case rel => exact ⟨x2.heap.size, A7, c7, rfl, HFIN.out⟩
      · go_simp
        refine via_world (K := K) (fun W9 => Held11 gA gB (.slice k_7 La.length k_9) (.slice m_7 Lb.length m_9) w5 W9 ∧ ZAt W9 w5.heap.size x1.heap.size (some ⟨w5.heap.size, 0, none⟩) ∧ W9.ownsRow w5.heap.size 28 8 (.slice (some ⟨w5.heap.size, 0, none⟩) 0 0) 0 []) ⟨Held11.alloc ht _, ZAt.new (w := x1) ht.2.2.1.size (own_lt HO1.out), HO1.out.alloc _⟩ ?_
        rintro x9 ⟨ht1, hz, hown⟩
        have HZ9 := Lib.hid hz
        have HO9 := Lib.hid hown
        clear hz hown
        refine hK.out _ _ ht1 (fun ht => ?_)
        clear hK K ht1
        try simp only [Act.put, List.setIfInBounds_toArray, List.set_cons_zero, List.set_cons_succ]
        refine wpAnyH_ready (rs := [3]) (by kernel_rfl) (by simp) ?_
        refine AllReadyH.cons (o := ⟨some _, _, _, _, _, _⟩) rfl (fun K hK => ?_) (AllReadyH.nil)
        · refine step_append_srcx _ rfl _ _ _ rfl w5.heap.size 28 i0 _ 8 112 Tryd.underlying25 hi0 hz0 hz1 hz2 rfl (by omega) (.slice (some ⟨w5.heap.size, 0, none⟩) 0 0) 0 [] rfl HO9.out k_7 La.length k_9 fA rfl HLFA.out ((HSA.out.keep ht.2.2.1)) HONEA.out (by unfold maxLen; omega) (by omega) ht.2.2.1.size La.length (by omega) ?_
          intro A10 c10 x10 hown hgr hat
          have ht1 : Held11 gA gB (.slice k_7 La.length k_9) (.slice m_7 Lb.length m_9) w5 x10 := Held11.grown ht HO9.out hgr
          have HO10 := Lib.hid hown
          have HZ10 := Lib.hid (ZAt.grown HZ9.out hgr hat)
          clear hown hgr hat
          refine hK.out _ _ ht1 (fun ht => ?_)
          clear hK K ht1
          try simp only [Act.put, List.setIfInBounds_toArray, List.set_cons_zero, List.set_cons_succ]
          refine wpAnyH_ready (rs := [6]) (by kernel_rfl) (by simp) ?_
          refine AllReadyH.cons (o := ⟨some _, _, _, _, _, _⟩) rfl (fun K hK => ?_) (AllReadyH.nil)
          · refine step_append_srcx _ rfl _ _ _ rfl w5.heap.size 28 i0 _ 8 112 Tryd.underlying25 hi0 hz0 hz1 hz2 rfl (by omega) (.slice A10 La.length c10) La.length ([] ++ fA) rfl HO10.out m_7 Lb.length m_9 fB rfl HLFB.out ((HSB.out.keep ht.2.2.1)) HONEB.out (by unfold maxLen; omega) (by omega) ht.2.2.1.size (La.length + Lb.length) (by omega) ?_
            intro A11 c11 x11 hown hgr hat
            have ht1 : Held11 gA gB (.slice k_7 La.length k_9) (.slice m_7 Lb.length m_9) w5 x11 := Held11.grown ht HO10.out hgr
            have HO11 := Lib.hid hown
            have HZ11 := Lib.hid (ZAt.grown HZ10.out hgr hat)
            clear hown hgr hat
            refine hK.out _ _ ht1 (fun ht => ?_)
            clear hK K ht1
            try simp only [Act.put, List.setIfInBounds_toArray, List.set_cons_zero, List.set_cons_succ]
            refine wpAnyH_take (i := 7) (oi := ⟨some _, _, _, _, _, _⟩) (v := (.agg #[.int .i64 4, .bool false, .bool false, .string ⟨#[]⟩, .int .i64 0, .string ⟨#[]⟩, .slice A11 (La.length + Lb.length) c11, .slice none 0 0])) rfl (by kernel_rfl) (by kernel_rfl) (by kernel_rfl) (fun _ _ _ h => h) (Or.inl ⟨by rfl, ?_⟩) ht ?_
            · intro W9 hSw
              obtain ⟨cA, cB, cb⟩ := hSw
              go_simp
            try simp only [Act.put, List.setIfInBounds_toArray, List.set_cons_zero, List.set_cons_succ]
            refine wpAnyH_ready (rs := [9]) (by kernel_rfl) (by simp) ?_
            refine AllReadyH.cons (o := ⟨none, _, _, _, _, _⟩) rfl (fun K hK => ?_) (AllReadyH.nil)
            · obtain ⟨z0, z1, z2, z3, z4, z5, z6, z7⟩ := HZ11.out.blk.eight
              have zf := HZ11.out.blk.frozen
              have zl := HZ11.out.blk.lt
              go_simp
              refine via_world (K := K) (fun W9 => Held11 gA gB (.slice k_7 La.length k_9) (.slice m_7 Lb.length m_9) w5 W9 ∧ Fin11 w5 La Lb x1.heap.size A11 c11 W9) ⟨Held11.set8 ht HZ11.out.ge _ _ _ _ _ _ _ _, fin11 HFLAT.out HO11.out HZ11.out ht.2.2.1⟩ ?_
              rintro x12 ⟨ht1, hfin⟩
              have HFIN := Lib.hid hfin
              clear hfin z0 z1 z2 z3 z4 z5 z6 z7 zf zl
              refine hK.out _ _ ht1 (fun ht => ?_)
              clear hK K ht1
              try simp only [Act.put, List.setIfInBounds_toArray, List.set_cons_zero, List.set_cons_succ]
              refine wpAnyH_done (by kernel_rfl) ?_ _
              clear ht
              go_wp2_with fail
              go_meet
              case rel => exact ⟨x1.heap.size, A11, c11, rfl, HFIN.out⟩
    · go_simp
      refine via_world (K := K) (fun W9 => Held11 gA gB (.slice k_7 La.length k_9) (.slice m_7 Lb.length m_9) w5 W9 ∧ ZAt W9 w5.heap.size w5.heap.size none) ⟨Held11.alloc ht _, ZAt.new (w := w5.drew) ht.2.2.1.size ((fun ad e => by cases e))⟩ ?_
      rintro x13 ⟨ht1, hz⟩
      have HZ13 := Lib.hid hz
      clear hz
      refine hK.out _ _ ht1 (fun ht => ?_)
      clear hK K ht1
      try simp only [Act.put, List.setIfInBounds_toArray, List.set_cons_zero, List.set_cons_succ]
      refine wpAnyH_ready (rs := [0]) (by kernel_rfl) (by simp) ?_
      refine AllReadyH.cons (o := ⟨some _, _, _, _, _, _⟩) rfl (fun K hK => ?_) (AllReadyH.nil)
      · go_simp
        refine via_world (K := K) (fun W9 => Held11 gA gB (.slice k_7 La.length k_9) (.slice m_7 Lb.length m_9) w5 W9 ∧ W9.ownsRow w5.heap.size 28 8 (.slice (some ⟨x13.heap.size, 0, none⟩) 0 0) 0 [] ∧ ZAt W9 w5.heap.size w5.heap.size (some ⟨x13.heap.size, 0, none⟩)) ⟨Held11.alloc ht _, World.ownsRow_lit x13 #[] 0 ht.2.2.1.size (by unfold maxLen; omega) rfl, ZAt.row HZ13.out _⟩ ?_
        rintro x14 ⟨ht1, hown, hz⟩
        have HZ14 := Lib.hid hz
        have HO14 := Lib.hid hown
        clear hown hz
        refine hK.out _ _ ht1 (fun ht => ?_)
        clear hK K ht1
        try simp only [Act.put, List.setIfInBounds_toArray, List.set_cons_zero, List.set_cons_succ]
        refine wpAnyH_ready (rs := [3]) (by kernel_rfl) (by simp) ?_
        refine AllReadyH.cons (o := ⟨some _, _, _, _, _, _⟩) rfl (fun K hK => ?_) (AllReadyH.nil)
        · refine step_append_srcx _ rfl _ _ _ rfl w5.heap.size 28 i0 _ 8 112 Tryd.underlying25 hi0 hz0 hz1 hz2 rfl (by omega) (.slice (some ⟨x13.heap.size, 0, none⟩) 0 0) 0 [] rfl HO14.out k_7 La.length k_9 fA rfl HLFA.out ((HSA.out.keep ht.2.2.1)) HONEA.out (by unfold maxLen; omega) (by omega) ht.2.2.1.size La.length (by omega) ?_
          intro A15 c15 x15 hown hgr hat
          have ht1 : Held11 gA gB (.slice k_7 La.length k_9) (.slice m_7 Lb.length m_9) w5 x15 := Held11.grown ht HO14.out hgr
          have HO15 := Lib.hid hown
          have HZ15 := Lib.hid (ZAt.grown HZ14.out hgr hat)
          clear hown hgr hat
          refine hK.out _ _ ht1 (fun ht => ?_)
          clear hK K ht1
          try simp only [Act.put, List.setIfInBounds_toArray, List.set_cons_zero, List.set_cons_succ]
          refine wpAnyH_ready (rs := [6]) (by kernel_rfl) (by simp) ?_
          refine AllReadyH.cons (o := ⟨some _, _, _, _, _, _⟩) rfl (fun K hK => ?_) (AllReadyH.nil)
          · refine step_append_srcx _ rfl _ _ _ rfl w5.heap.size 28 i0 _ 8 112 Tryd.underlying25 hi0 hz0 hz1 hz2 rfl (by omega) (.slice A15 La.length c15) La.length ([] ++ fA) rfl HO15.out m_7 Lb.length m_9 fB rfl HLFB.out ((HSB.out.keep ht.2.2.1)) HONEB.out (by unfold maxLen; omega) (by omega) ht.2.2.1.size (La.length + Lb.length) (by omega) ?_
            intro A16 c16 x16 hown hgr hat
            have ht1 : Held11 gA gB (.slice k_7 La.length k_9) (.slice m_7 Lb.length m_9) w5 x16 := Held11.grown ht HO15.out hgr
            have HO16 := Lib.hid hown
            have HZ16 := Lib.hid (ZAt.grown HZ15.out hgr hat)
            clear hown hgr hat
            refine hK.out _ _ ht1 (fun ht => ?_)
            clear hK K ht1
            try simp only [Act.put, List.setIfInBounds_toArray, List.set_cons_zero, List.set_cons_succ]
            refine wpAnyH_take (i := 7) (oi := ⟨some _, _, _, _, _, _⟩) (v := (.agg #[.int .i64 4, .bool false, .bool false, .string ⟨#[]⟩, .int .i64 0, .string ⟨#[]⟩, .slice A16 (La.length + Lb.length) c16, .slice none 0 0])) rfl (by kernel_rfl) (by kernel_rfl) (by kernel_rfl) (fun _ _ _ h => h) (Or.inl ⟨by rfl, ?_⟩) ht ?_
            · intro W9 hSw
              obtain ⟨cA, cB, cb⟩ := hSw
              go_simp
            try simp only [Act.put, List.setIfInBounds_toArray, List.set_cons_zero, List.set_cons_succ]
            refine wpAnyH_ready (rs := [9]) (by kernel_rfl) (by simp) ?_
            refine AllReadyH.cons (o := ⟨none, _, _, _, _, _⟩) rfl (fun K hK => ?_) (AllReadyH.nil)
            · obtain ⟨z0, z1, z2, z3, z4, z5, z6, z7⟩ := HZ16.out.blk.eight
              have zf := HZ16.out.blk.frozen
              have zl := HZ16.out.blk.lt
              go_simp
              refine via_world (K := K) (fun W9 => Held11 gA gB (.slice k_7 La.length k_9) (.slice m_7 Lb.length m_9) w5 W9 ∧ Fin11 w5 La Lb w5.heap.size A16 c16 W9) ⟨Held11.set8 ht HZ16.out.ge _ _ _ _ _ _ _ _, fin11 HFLAT.out HO16.out HZ16.out ht.2.2.1⟩ ?_
              rintro x17 ⟨ht1, hfin⟩
              have HFIN := Lib.hid hfin
              clear hfin z0 z1 z2 z3 z4 z5 z6 z7 zf zl
              refine hK.out _ _ ht1 (fun ht => ?_)
              clear hK K ht1
              try simp only [Act.put, List.setIfInBounds_toArray, List.set_cons_zero, List.set_cons_succ]
              refine wpAnyH_done (by kernel_rfl) ?_ _
              clear ht
              go_wp2_with fail
              go_meet
              case rel => exact ⟨w5.heap.size, A16, c16, rfl, HFIN.out⟩
    -- END R11
  case rest =>
    obtain ⟨g17, A17, c17, rfl, hfin⟩ := hcut
    obtain ⟨w6, hw6⟩ : ∃ W, W = wc := ⟨_, rfl⟩
    subst hw6
    have HTW6 := Lib.hid (HTW.out.on hfin.2.2.2.2)
    have HSLA6 := Lib.hid (HSLA.out.keep (le_below hfin.2.2.2.2))
    have HK17 := Lib.hid hfin.1
    have hlab : La.length + Lb.length = (La ++ Lb).length := by rw [List.length_append]
    have HIN6 := Lib.hid (arr_in hfin.2.1 hlab (by rw [← hlab]; exact hfin.2.2.1) hfin.2.2.2.1)
    have hfa := fit_fine HFA.out
    have hfb := fit_fine HFB.out
    have hza := HFA.out.2.1
    have hzb := HFB.out.2.1
    simp only [Vl.size] at hza hzb
    have HFAB := Lib.hid (fit_list (l := La ++ Lb) (fun u hu => (List.mem_append.1 hu).elim (fun h => fit_el hfa h) (fun h => fit_el hfb h)) (by rw [Ed.sizeL_append]; omega))
    have HFEL := Lib.hid (show ∀ u ∈ La, Fit u ∧ u.size ≤ 999999 from fun u hu => ⟨fit_el hfa hu, by have := size_el hu; omega⟩)
    have HSZA := Lib.hid (show sizeL La ≤ 2000 by omega)
    have HRAB := Lib.hid (readF_any _ _ w6 (HT.out.on HTW6.out.below) HFAB.out HIN6.out)
    clear hfin H0 HLFA HLFB HONEA HONEB HSA HSB HFLAT HTW HSLA hfa hfb hza hzb HFA HFB hlab hi0 hz0 hz1 hz2
    obtain ⟨a0, a1, a2, a3, a4, a5, a6, a7⟩ := HK17.out.eight
    have hla1 : la.length ≤ 100 := by have := HLENS.out.1; omega
    have hlb1 : lb.length ≤ 100 := by have := HLENS.out.2; omega
    have hwr : IntKind.i64.wrap ((la.length : Int) + (lb.length : Int)) = (la.length : Int) + (lb.length : Int) := by rw [IntKind.wrap_i64]; omega
    have HWR := Lib.hid hwr
    clear hwr
    by_cases hbig : 100 < La.length + Lb.length
    · have HRD := Lib.hid (show Oq.read (.mk 4 false Nm.Num.zero [] (La ++ Lb) []) = .bad 5 100 by rw [read_mk, if_pos rfl, if_pos (by rw [List.length_append]; exact hbig)])
      go_wp2_with fail
      refine HRAB.out.mono ?_
      intro e7 w7 h7
      obtain ⟨b7, rfl, _, hb7⟩ := h7.bad HRD.out
      have hdd : decide ((100 : Int) < (la.length : Int) + (lb.length : Int)) = true := by have h1 := HLENS.out.1; have h2 := HLENS.out.2; simp; omega
      have hwr := HWR.out
      have HB7 := Lib.hid (HTW6.out.below.trans (hb7.mono HTW6.out.below.size))
      clear h7 hb7 a0 a1 a2 a3 a4 a5 a6 a7 hbig
      go_wp2_with fail
      go_ret
      exact ⟨rfl, HB7.out⟩
    obtain ⟨lab, hlab⟩ : ∃ L, L = la ++ lb := ⟨_, rfl⟩
    have HRD := Lib.hid (show Oq.read (.mk 4 false Nm.Num.zero [] (La ++ Lb) []) = .ok lab by rw [hlab]; exact read_ok (by rw [List.length_append]; omega) (by rw [List.map_append, List.map_append, HMA.out, HMB.out]))
    have HLAB := Lib.hid hlab
    have HLBL := Lib.hid (show lab.length = la.length + lb.length by rw [hlab, List.length_append])
    clear hlab
    go_wp2_with fail
    refine HRAB.out.mono ?_
    intro e7 w7 h7
    obtain ⟨A3, c3, rfl, hs3, hc3, hc3m, hb7⟩ := h7.ok HRD.out
    have hdd : decide ((100 : Int) < (la.length : Int) + (lb.length : Int)) = false := by have h1 := HLENS.out.1; have h2 := HLENS.out.2; simp; omega
    have HTW7 := Lib.hid (HTW6.out.on hb7)
    have HSLA7 := Lib.hid (HSLA6.out.keep (le_below hb7))
    have HS3 := Lib.hid hs3
    clear h7 hs3 hb7 a0 a1 a2 a3 a4 a5 a6 a7 HRD HRAB HTW6 HSLA6 HK17 HIN6 HFAB
    have hwr := HWR.out
    have HMR0 := Lib.hid (show MoreRow w7 w7.heap.size La key 0 [] none 0 (w7.alloc (.cells (moreC none 0 0) 28)) from
      ⟨Nat.zero_le _, rfl, Blk.new _ _ _, RowG.nil _ _, rfl, (Below.refl w7.heap.size w7).alloc (Nat.le_refl _) _⟩)
    go_upto_region 16 with (fail)
    generalize w7.alloc (.cells (moreC none 0 0) 28) = w8 at *
    clear hwr hdd
    generalize hg20 : w7.heap.size = g20 at *
    have HG20 := Lib.hid hg20
    clear hg20
    go_wp2_with fail
    obtain ⟨i0, hi0, hz0, hz1, hz2⟩ := infoV'
    have HNM := Lib.hid (show [122] ++ key = 122 :: key from rfl)
    generalize hnm : (122 :: key : List UInt8) = nm at HNM
    have HNMQ := Lib.hid hnm
    have hnml : nm.length ≤ 101 := by rw [← hnm, List.length_cons]; omega
    have hcat := fun W => cat_lists' W HNM.out (by simp only [List.length_singleton]; omega)
    clear hnm
    go_loopw [21] (Moring w7 g20 La key) (fun i _ => La.length - (intOf i).toNat)
    case atStart => exact ⟨0, [], none, 0, rfl, HMR0.out⟩
    case round =>
    obtain ⟨j, acc, Ar, cp, rfl, hR⟩ := hrel
    have HR := Lib.hid hR
    have hj := hR.hj
    clear hR HMR0
    have HTWR := Lib.hid (HTW7.out.on (by have := HR.out.below; exact this))
    obtain ⟨a0, a1, a2, a3, a4, a5, a6, a7⟩ := HTWR.out.a.1.eight
    by_cases hlt : j < La.length
    · obtain ⟨g0, o0, y, rfl, hy, hc⟩ := HSLA7.out j _ (List.getElem?_eq_getElem hlt)
      obtain ⟨y_1, y_2, y_3, y_4, y_5, y_6, y_7, y_8, y_9, y_a, y_b, y_c, rfl⟩ := In.cells hy
      obtain ⟨e0, e1, e2, e3, e4, e5, e6, e7⟩ := (hc.keep (le_below HR.out.below)).eight
      have hgl := World.block_lt_of_cell? _ _ e0
      have hgr := HR.out.o.lt
      have hal : acc.length ≤ 100 := by have := HR.out.len; omega
      have hj1 : (j : Int) < (La.length : Int) := by omega
      obtain ⟨hjr, hop⟩ := map_at HMA.out hlt
      have hfel := HFEL.out _ (List.getElem_mem hlt)
      have HME := Lib.hid (more_edit key hop).1
      have hbx : Below wr.heap.size wr (wr.alloc (.cells #[.string ⟨nm.toArray⟩] 9)) := (Below.refl wr.heap.size wr).alloc (Nat.le_refl _) _
      have hbw := HR.out.below.trans (hbx.mono HR.out.below.size)
      have heg := HR.out.eg
      have HED := Lib.hid (refEdit_any 1 (.inl rfl) [nm] (fun b => b < g20) (La[j]'hlt) tip _ (.agg #[.int .i64 1, .bool false, .bool false, .string ⟨#[]⟩, .int .i64 0, .string ⟨#[]⟩, .slice none 0 0, .slice none 0 0]) (some ⟨wr.heap.size, 0, none⟩) 1 (wr.alloc (.cells #[.string ⟨nm.toArray⟩] 9))
        (fun b hb => by have := hbx.size; show b < _; omega)
        (In.keep (fun p u hp => on_some.2 ⟨by have := World.block_lt_of_cell? w7 _ hp; show p.block < g20; omega, le_below hbw _ _ hp⟩) _ _ hy)
        (leaf_in _ 1 false Nm.Num.zero [])
        (strs_at (l := [nm]) (Blk.new wr 9 #[.string ⟨nm.toArray⟩])) (Nat.le_refl _) (by unfold maxLen; omega) (fun q hq => by rw [List.mem_singleton.1 hq]; omega) hfel.1.neat (by have := hfel.2; omega))
      rw [← HNMQ.out] at HED
      rw [HME.out] at HED
      rw [HNMQ.out] at HED
      obtain ⟨z, hz⟩ : ∃ z, z = moreOf key (La[j]'hlt) := ⟨_, rfl⟩
      rw [← hz] at HED
      have HZ := Lib.hid hz
      have HBX := Lib.hid hbx
      clear hz hy hc hop hfel hbx hbw heg
      go_wp2_with fail
      refine HED.out.mono ?_
      rintro e9 w9 ⟨hb9, ⟨u9, y9, hu9, rfl, hy9⟩ | ⟨c9, y9, hu9, _⟩⟩
      case inr => cases hu9
      injection hu9 with hu9
      subst hu9
      obtain ⟨j_1, j_2, j_3, j_4, j_5, j_6, j_7, j_8, j_9, j_a, j_b, j_c, rfl⟩ := In.cells hy9
      have hb9a := hb9.alloc hb9.size (.cells #[.int .i64 j_1, .bool j_2, .bool j_3, .string ⟨j_4.toArray⟩, .int .i64 j_5, .string ⟨j_6.toArray⟩, .slice j_7 j_8 j_9, .slice j_a j_b j_c] 28)
      have HB9 := Lib.hid (HBX.out.trans (hb9a.mono HBX.out.size))
      have HY9 := Lib.hid (show z.In ((w9.alloc (.cells #[.int .i64 j_1, .bool j_2, .bool j_3, .string ⟨j_4.toArray⟩, .int .i64 j_5, .string ⟨j_6.toArray⟩, .slice j_7 j_8 j_9, .slice j_a j_b j_c] 28)).on fun b => b < g20 ∨ wr.heap.size ≤ b) _ from In.keep (on_keep (S' := fun b => b < g20 ∨ wr.heap.size ≤ b) (fun b h _ => h.imp id (fun h => Nat.le_trans HBX.out.size h)) (fun b' _ h2 => Below.heap_alloc _ _ _ h2)) _ _ hy9)
      have HK9 := Lib.hid (Blk.new w9 28 #[.int .i64 j_1, .bool j_2, .bool j_3, .string ⟨j_4.toArray⟩, .int .i64 j_5, .string ⟨j_6.toArray⟩, .slice j_7 j_8 j_9, .slice j_a j_b j_c])
      clear hb9 hb9a hy9 HED a0 a1 a2 a3 a4 a5 a6 a7 e0 e1 e2 e3 e4 e5 e6 e7 hgl
      go_upto_region 20 with (fail)
      generalize w9.alloc (.cells #[.int .i64 j_1, .bool j_2, .bool j_3, .string ⟨j_4.toArray⟩, .int .i64 j_5, .string ⟨j_6.toArray⟩, .slice j_7 j_8 j_9, .slice j_a j_b j_c] 28) = wa9 at *
      generalize w9.heap.size = g9 at *
      obtain ⟨flat, hown, hone, hel⟩ := HR.out.row
      have HOWN := Lib.hid hown
      have HONE := Lib.hid hone
      have HEL := Lib.hid hel
      have HB5 := Lib.hid (HB9.out.alloc HB9.out.size (.cells #[.int .i64 j_1, .bool j_2, .bool j_3, .string ⟨j_4.toArray⟩, .int .i64 j_5, .string ⟨j_6.toArray⟩, .slice j_7 j_8 j_9, .slice j_a j_b j_c] 28))
      have HOWN5 := Lib.hid (own_keep hown (fun k _ hk => HB5.out.block k hk))
      have HA5 := Lib.hid (show z.In ((wa9.alloc (.cells #[.int .i64 j_1, .bool j_2, .bool j_3, .string ⟨j_4.toArray⟩, .int .i64 j_5, .string ⟨j_6.toArray⟩, .slice j_7 j_8 j_9, .slice j_a j_b j_c] 28)).on fun b => b < g20 ∨ wr.heap.size ≤ b) _ from In.keep (on_keep (fun _ h _ => h) (fun b' _ h2 => Below.heap_alloc _ _ _ h2)) _ _ HY9.out)
      obtain ⟨c0, c1', c2', c3', c4, c5, c6, c7⟩ := HK9.out.eight
      have cl := HK9.out.lt
      have b0 := (HR.out.o.on HB9.out).cell 6
      have bf := (HR.out.o.on HB9.out).frozen
      have bl := (HR.out.o.on HB9.out).lt
      clear hown hone hel
      go_wp2_with (refine wpList_append_lies _ rfl _ _ _ rfl (g20 + 1) 28 i0 _ 8 112 Tryd.underlying25 hi0 hz0 hz1 hz2 rfl (by omega) (.slice Ar acc.length cp) acc.length flat rfl HOWN5.out ⟨wa9.heap.size, 0, none⟩ 1 1 [.int .i64 j_1, .bool j_2, .bool j_3, .string ⟨j_4.toArray⟩, .int .i64 j_5, .string ⟨j_6.toArray⟩, .slice j_7 j_8 j_9, .slice j_a j_b j_c] rfl rfl (World.news_of_block (heap_alloc_new wa9 _)) (by simp [Value.oneCell']) (by omega) (by unfold maxLen; omega) (by omega) (by simp; omega) _ rfl ?_; intro gx capx wx hownx hgrowx hatx hltx; have HST := Lib.hid (HR.out.next hlt HZ.out HOWN.out HONE.out HEL.out HB5.out HA5.out (by intro u hu; simp at hu; rcases hu with rfl | rfl | rfl | rfl | rfl | rfl | rfl | rfl <;> rfl) hownx hgrowx hatx); have qx := (HR.out.grown HB5.out hgrowx).cell 6; have qf := (HR.out.grown HB5.out hgrowx).frozen; have ql := (HR.out.grown HB5.out hgrowx).lt; clear hownx hgrowx hatx)
      go_roundw
      case rel => exact ⟨j + 1, acc ++ [z], some ⟨gx, 0, none⟩, capx, by go_num, HST.out⟩
      case measure => simp [intOf]; omega
    · obtain rfl : j = La.length := by omega
      have heq := HR.out.eq
      rw [List.take_length] at heq
      have hrl := HR.out.row.le
      have hal : acc.length ≤ 100 := by have := HR.out.len; omega
      have HINM := Lib.hid (arr_in (SlL.keep (on_all _ _) HR.out.row.slL) rfl hrl.1 hrl.2.1)
      have HFM := Lib.hid (fit_list (l := acc) (fun u hu => by
          rw [heq] at hu
          obtain ⟨v, hv, rfl⟩ := List.mem_map.1 hu
          obtain ⟨i, hi, rfl⟩ := List.getElem_of_mem hv
          obtain ⟨_, hop⟩ := map_at HMA.out hi
          exact (more_fit (by omega) hop (HFEL.out _ (List.getElem_mem hi)).1 (HFEL.out _ (List.getElem_mem hi)).2).1) (by
          have h1 := sizeL_more (key := key) (by omega) HMA.out HFEL.out
          have h2 := HSZA.out
          rw [heq]; omega))
      have HRM := Lib.hid (show Oq.read (.mk 4 false Nm.Num.zero [] acc []) = .ok la from read_ok hal (by rw [heq]; exact map_more key HMA.out))
      have HRX := Lib.hid (readF_any _ _ wr (HT.out.on HTWR.out.below) HFM.out HINM.out)
      have HOM := Lib.hid HR.out.o
      have HB8 := Lib.hid HR.out.below
      clear heq hrl hal a0 a1 a2 a3 a4 a5 a6 a7 hcat hi0 hz0 hz1 hz2 HNM HNMQ hnml
      have hfor := HTWR.out.a.1.eight
      obtain ⟨a0, a1, a2, a3, a4, a5, a6, a7⟩ := hfor
      obtain ⟨b0, b1, b2, b3, b4, b5, b6, b7⟩ := HOM.out.eight
      go_wp2_with fail
      refine HRX.out.mono ?_
      intro e10 w10 h10
      obtain ⟨A5, c5, rfl, hs5, hc5, hc5m, hb10⟩ := h10.ok HRM.out
      have HTX := Lib.hid (HTWR.out.on hb10)
      have HS5 := Lib.hid hs5
      have HS3X := Lib.hid (HS3.out.keep (le_below (HB8.out.trans (hb10.mono HB8.out.size))))
      clear h10 hs5 hb10 HRX HRM HFM HINM HR HTWR HTW7 HS3 HB8 HOM a0 a1 a2 a3 a4 a5 a6 a7 b0 b1 b2 b3 b4 b5 b6 b7 HSLA7
      obtain ⟨f1, k1, x1⟩ := SlO_flat HTX.out.l
      obtain ⟨f2, k2, x2⟩ := SlO_flat HTX.out.m
      have hbe : Below w10.heap.size w10 (w10.alloc (.cells #[] 48)) := (Below.refl w10.heap.size w10).alloc (Nat.le_refl _) _
      have HOWNE := Lib.hid (show (w10.alloc (.cells #[] 48)).ownsRow w10.heap.size 48 11 (.slice (some ⟨w10.heap.size, 0, none⟩) 0 0) 0 [] from World.ownsRow_lit w10 #[] 0 (Nat.le_refl _) (by unfold maxLen; omega) rfl)
      have HX1 := Lib.hid (x1.keep hbe)
      have HX2 := Lib.hid x2
      have HBE := Lib.hid hbe
      have HL1 := Lib.hid k1.1
      have HL2 := Lib.hid k2.1
      have HO1 := Lib.hid k1.2.1
      have HO2 := Lib.hid k2.2.1
      have HFL := Lib.hid (k1.append k2)
      clear x1 x2 k1 k2 hbe
      obtain ⟨i1, hj0, hy0, hy1, hy2⟩ := infoO
      go_wp2_with (first
        | (at_builtin; refine wpList_append_srcx_w _ (by rfl) _ _ _ rfl w10.heap.size 48 i1 _ 11 168 Tryd.underlying31 hj0 hy0 hy1 hy2 rfl (by omega) (.slice (some ⟨w10.heap.size, 0, none⟩) 0 0) 0 [] rfl HOWNE.out A1 la.length c1 f1 rfl HL1.out HX1.out HO1.out (by unfold maxLen; omega) (by omega) (by simp) la.length (by omega) ?_; intro A6 c6 x6 hown6 hg6; have HOWN6 := Lib.hid hown6; have HB6 := Lib.hid (HBE.out.grown hg6 HBE.out.size (fun k hk => by cases hk; exact Nat.le_refl _)); clear hown6 hg6)
        | (at_builtin; refine wpList_append_srcx_w _ (by rfl) _ _ _ rfl w10.heap.size 48 i1 _ 11 168 Tryd.underlying31 hj0 hy0 hy1 hy2 rfl (by omega) (.slice A6 la.length c6) la.length ([] ++ f1) rfl HOWN6.out A2 lb.length c2 f2 rfl HL2.out (HX2.out.keep HB6.out) HO2.out (by unfold maxLen; omega) (by omega) HB6.out.size lab.length HLBL.out.symm ?_; intro A7 c7 x7 hown7 hg7; have HOWN7 := Lib.hid hown7; have HB7 := Lib.hid (HB6.out.grown hg7 HB6.out.size (fun k hk => own_new (fun ad e => by obtain ⟨g, rfl, h1, _⟩ := (own_le HOWN6.out).2.2.2 ad e; exact h1) hk)); clear hown7 hg7; have HSM1 := Lib.hid (same8_any lab A3 A7 c3 c7 x7 (HS3X.out.keep (le_below HB7.out)) (by rw [HLAB.out]; exact FlatO.sl (HFL.out.keep (le_below HB7.out)) HOWN7.out) hc3 hc3m (own_le HOWN7.out).1 (own_le HOWN7.out).2.1)))
      refine HSM1.out.mono ?_
      rintro e11 w11 ⟨rfl, hb11⟩
      have hbb := HB7.out.trans (hb11.mono HB7.out.size)
      have HSM2 := Lib.hid (same8_any la A5 A1 c5 c1 w11 (HS5.out.keep (le_below hbb)) (HTX.out.l.keep (le_below hbb)) hc5 hc5m hc1 (by unfold maxLen; exact hc1m))
      have HBF := Lib.hid (HTX.out.below.trans (hbb.mono HTX.out.below.size))
      clear hb11 hbb
      go_wp2_with fail
      refine HSM2.out.mono ?_
      rintro e12 w12 ⟨rfl, hb12⟩
      have HBG := Lib.hid (HBF.out.trans (hb12.mono HBF.out.size))
      clear hb12
      go_wp2_with fail
      go_ret
      exact ⟨rfl, HBG.out⟩

end Go.Proofs.YtkhplaknogalgaaDoor

