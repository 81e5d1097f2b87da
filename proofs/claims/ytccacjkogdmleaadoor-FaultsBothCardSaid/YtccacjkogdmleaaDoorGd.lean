/- FaultsTells of layer 13 (faults), given what the program's Sort, Merge, Under are to do. (By gen_gd.py.) -/
import Derived.Test.YtccacjkogdmleaaDoorGc
import Derived.Test.YtccacjkogdmleaaDoorCf
import Derived.OwnWalk
namespace Go.Proofs.YtccacjkogdmleaaDoor
open Go.RowKit Js Pt

/-- A list of faults, as a slice. -/
structure FAt (w : World) (A : Option Addr) (l : List Fl.F) (c : Nat) : Prop where
  sl : SlF w.cell? A l
  le : l.length ≤ c
  max : c ≤ maxLen
  nil : A = none → c = 0
theorem FAt.on {w w' : World} {A : Option Addr} {l : List Fl.F} {c : Nat} (h : FAt w A l c) (hb : Below w.heap.size w w') : FAt w' A l c := ⟨h.sl.keep (le_below hb), h.le, h.max, h.nil⟩
theorem FAt.src {w : World} {A : Option Addr} {l : List Fl.F} {c : Nat} (h : FAt w A l c) : Src w A l.length c (fFlat l) := by
  cases A with
  | none =>
    have h0 := h.nil rfl
    have h1 := h.le
    have hl : l = [] := List.eq_nil_of_length_eq_zero (by omega)
    subst hl
    exact .inl ⟨rfl, rfl, h0, rfl⟩
  | some ad =>
    refine .inr ⟨ad, rfl, fun j u hu => ?_⟩
    have hj := (List.getElem?_eq_some_iff.1 hu).1
    rw [fFlat_length] at hj
    have h0 : 0 < l.length := by omega
    obtain ⟨g, o, e1, _⟩ := h.sl 0 _ (List.getElem?_eq_getElem h0)
    injection e1 with e1
    subst e1
    rw [add_at13]
    exact h.sl.cell hu
theorem fat_own {w : World} {B n c : Nat} {A : Option Addr} {l : List Fl.F} (h : w.ownsRow B 28 3 (.slice A n c) n (fFlat l)) : FAt w A l c ∧ n = l.length := by
  obtain ⟨h1, h2, h3, h4, h5⟩ := own_slF h
  exact ⟨⟨h1, by omega, h4, h5⟩, h2⟩
theorem fat_lit (w : World) (l : List Fl.F) (h : l.length ≤ 1000) : FAt (w.alloc (.cells (fFlat l).toArray 28)) (some ⟨w.heap.size, 0, none⟩) l l.length :=
  (fat_own (B := w.heap.size) (World.ownsRow_lit w (fFlat l).toArray l.length (Nat.le_refl _) (by unfold maxLen; omega) (by rw [List.size_toArray, fFlat_length]))).1
/-- What each call tells. -/
def FP (r : List Fl.F) (w : World) (e : Ending) (w' : World) : Prop := ∃ (A : Option Addr) (c : Nat), e = .returned (.slice A r.length c) ∧ FAt w' A r c ∧ Below w.heap.size w w'
def SortT (G : World → Prop) : Prop := ∀ (l : List Fl.F) (A : Option Addr) (c : Nat) (w : World), G w → FAt w A l c → l.length ≤ 1000 → Calls Tryd.prog 9 #[.slice A l.length c] w (FP (Fl.sort l) w)
def MergeT (G : World → Prop) : Prop := ∀ (a b : List Fl.F) (A B : Option Addr) (c d : Nat) (w : World), G w → FAt w A a c → FAt w B b d → Fl.Rises a → Fl.Rises b → a.length ≤ 1000 → b.length ≤ 1000 → Calls Tryd.prog 10 #[.slice A a.length c, .slice B b.length d] w (FP (Fl.sort (a ++ b)) w)
def UnderT (G : World → Prop) : Prop := ∀ (nm : List UInt8) (l : List Fl.F) (A : Option Addr) (c : Nat) (w : World), G w → nm.length ≤ 1000 → FAt w A l c → l.length ≤ 1000 → (∀ f ∈ l, f.inst.length ≤ 2000000000000000000) → Calls Tryd.prog 11 #[.string ⟨nm.toArray⟩, .slice A l.length c] w (FP (Fl.under (text [nm]) l) w)
theorem refSortP (l : List Fl.F) (A : Option Addr) (c : Nat) (w : World) (h : FAt w A l c) (hn : l.length ≤ 1000) : Calls Tryd.prog 6 #[.slice A l.length c] w (FP (Fl.sort l) w) := by
  refine (refSort_any l A c w h.sl h.le h.max (by omega)).mono ?_
  rintro e w' ⟨Ao, co, h1, h2, h3, h4, h5, h6⟩
  exact ⟨Ao, co, h1, ⟨h2, h3, h4, h5⟩, h6⟩
theorem sameFP (l : List Fl.F) (A : Option Addr) (cA : Nat) (B : Option Addr) (cB : Nat) (w : World) (ha : FAt w A l cA) (hb : FAt w B l cB) : Calls Tryd.prog 8 #[.slice A l.length cA, .slice B l.length cB] w fun e w' => e = .returned (.int .i64 1) ∧ Below w.heap.size w w' := sameF_any l A cA B cB w ha.sl hb.sl ha.le ha.max hb.le hb.max
theorem Fl.sort_few {l : List Fl.F} : (Fl.sort l).length ≤ l.length := by
  have h := Fl.sort_length (l := l) (out := [])
  rw [List.length_nil, Nat.zero_add] at h
  exact h
theorem strs_one13 (w : World) (t : TypeId) (nm : List UInt8) : Strs (w.alloc (.cells #[.string ⟨nm.toArray⟩] t)).cell? (some ⟨w.heap.size, 0, none⟩) [nm] := fun j n hj => by
  have hl := (List.getElem?_eq_some_iff.1 hj).1
  obtain rfl : j = 0 := by simpa using hl
  obtain rfl : nm = n := by simpa using hj
  exact ⟨w.heap.size, 0, rfl, (Blk.new w t _).cell 0⟩
theorem Fl.under_length (p : List UInt8) (l : List Fl.F) : (Fl.under p l).length = l.length := by simp [Fl.under]

def Fl.kType : List UInt8 := [116, 121, 112, 101]
set_option linter.unusedVariables false in
set_option linter.unusedSimpArgs false in
set_option maxRecDepth 100000 in
set_option maxHeartbeats 2000000 in
theorem up13_any {G : World → Prop} (hG : Stays G) (hS : SortT G) (hU : UnderT G) (w : World) (hg : G w) : Calls Tryd.prog 5 #[] w fun e w' => e = .returned (.bool true) ∧ Below w.heap.size w w' := by
  have hb1 := (Below.refl w.heap.size w).alloc (Nat.le_refl _) (.cells #[.string ⟨#[]⟩, .string ⟨#[]⟩, .string ⟨#[116, 121, 112, 101]⟩] 28)
  have HU := Lib.hid (hU [97] [⟨[], [], Fl.kType⟩] (some ⟨w.heap.size, 0, none⟩) 1 (w.alloc (.cells #[.string ⟨#[]⟩, .string ⟨#[]⟩, .string ⟨#[116, 121, 112, 101]⟩] 28)) (hG _ _ hg hb1) (by decide) (fat_lit w [⟨[], [], Fl.kType⟩] (by decide)) (by decide) (by intro f hf; obtain rfl := List.mem_singleton.1 hf; decide))
  have HG := Lib.hid (fun (W : World) (h : Below w.heap.size w W) => hG _ _ hg h)
  have HB1 := Lib.hid hb1
  have HS := Lib.hid hS
  clear hb1 hG hS hU hg
  go_enter Tryd.func5, Tryd.ntmps5
  go_wp2_with fail
  refine HU.out.mono ?_
  rintro e1 w1 ⟨A1, c1, rfl, hf1, hb1⟩
  rw [show Fl.under (text [[97]]) [⟨[], [], Fl.kType⟩] = [⟨[47, 97], [], Fl.kType⟩] from rfl] at hf1 ⊢
  have HB2 := Lib.hid (HB1.out.trans (hb1.mono HB1.out.size))
  have hba := (Below.refl w1.heap.size w1).alloc (Nat.le_refl _) (.cells #[.string ⟨#[47, 97]⟩, .string ⟨#[]⟩, .string ⟨#[116, 121, 112, 101]⟩] 28)
  have HSM := Lib.hid (sameFP [⟨[47, 97], [], Fl.kType⟩] A1 c1 (some ⟨w1.heap.size, 0, none⟩) 1 (w1.alloc (.cells #[.string ⟨#[47, 97]⟩, .string ⟨#[]⟩, .string ⟨#[116, 121, 112, 101]⟩] 28)) (hf1.on hba) (fat_lit w1 [⟨[47, 97], [], Fl.kType⟩] (by decide)))
  rw [show ([⟨[47, 97], [], Fl.kType⟩] : List Fl.F).length = 1 from rfl] at HSM ⊢
  have HB3 := Lib.hid (HB2.out.trans (hba.mono HB2.out.size))
  clear hf1 hb1 hba HU HB1 HB2
  go_wp2_with fail
  refine HSM.out.mono ?_
  rintro e2 w2 ⟨rfl, hb2⟩
  have HB4 := Lib.hid (HB3.out.trans (hb2.mono HB3.out.size))
  have hbz := (Below.refl w2.heap.size w2).alloc (Nat.le_refl _) (.cells #[.string ⟨#[]⟩, .string ⟨#[]⟩, .string ⟨#[]⟩, .string ⟨#[]⟩, .string ⟨#[]⟩, .string ⟨#[]⟩] 28)
  have HB5 := Lib.hid (HB4.out.trans (hbz.mono HB4.out.size))
  have HSO := Lib.hid (HS.out [⟨[], [], []⟩, ⟨[], [], []⟩] (some ⟨w2.heap.size, 0, none⟩) 2 (w2.alloc (.cells #[.string ⟨#[]⟩, .string ⟨#[]⟩, .string ⟨#[]⟩, .string ⟨#[]⟩, .string ⟨#[]⟩, .string ⟨#[]⟩] 28)) (HG.out _ HB5.out) (fat_lit w2 [⟨[], [], []⟩, ⟨[], [], []⟩] (by decide)) (by decide))
  rw [show Fl.sort [⟨[], [], []⟩, ⟨[], [], []⟩] = [⟨[], [], []⟩] from rfl] at HSO
  clear hb2 hbz HSM HB3 HB4
  go_wp2_with fail
  refine HSO.out.mono ?_
  rintro e3 w3 ⟨A3, c3, rfl, hf3, hb3⟩
  rw [show ([⟨[], [], []⟩] : List Fl.F).length = 1 from rfl]
  have HB6 := Lib.hid (HB5.out.trans (hb3.mono HB5.out.size))
  clear hf3 hb3
  go_wp2_with fail
  go_ret
  exact ⟨rfl, HB6.out⟩

set_option linter.unusedVariables false in
set_option linter.unusedSimpArgs false in
set_option maxRecDepth 100000 in
set_option maxHeartbeats 4000000 in
theorem faultsTells_any {G : World → Prop} (hG : Stays G) (hS : SortT G) (hM : MergeT G) (hU : UnderT G) (a b : List Fl.F) (A B : Option Addr) (cA cB : Nat) (nm : List UInt8) (w : World) (hg : G w) (ha : FAt w A a cA) (hb : FAt w B b cB) (hla : ∀ f ∈ a, f.inst.length ≤ 2000000000000000000) (hnm : nm.length ≤ 2000000000000000000) :
    Calls Tryd.prog 3 #[.slice A a.length cA, .slice B b.length cB, .string ⟨nm.toArray⟩] w fun e w' => e = .returned (.bool true) ∧ Below w.heap.size w w' := by
  have HU := Lib.hid (up13_any hG hS hU w hg)
  have HG := Lib.hid (fun (W : World) (h : Below w.heap.size w W) => hG _ _ hg h)
  have HST := Lib.hid hS
  have HMT := Lib.hid hM
  have HUT := Lib.hid hU
  have HFA := Lib.hid ha
  have HFB0 := Lib.hid hb
  have HLA := Lib.hid hla
  have hca := ha.max
  have hcb := hb.max
  have hla1 := ha.le
  have hlb1 := hb.le
  unfold maxLen at hca hcb
  have hsz : (⟨nm.toArray⟩ : ByteArray).size = nm.length := Lib.size_mk nm
  clear hG hS hM hU hg ha hb hla
  go_enter Tryd.func3, Tryd.ntmps3
  go_wp2_with fail
  refine HU.out.mono ?_
  rintro e w0 ⟨rfl, hb0⟩
  have HB0 := Lib.hid hb0
  clear hb0 HU
  by_cases h1 : 60 < a.length
  · have d1 : (60 : Int) < (a.length : Int) := by omega
    go_wp2_with fail
    go_ret
    exact ⟨rfl, HB0.out⟩
  have d1 : ¬ (60 : Int) < (a.length : Int) := by omega
  by_cases h2 : 60 < b.length
  · have d2 : (60 : Int) < (b.length : Int) := by omega
    go_wp2_with fail
    go_ret
    exact ⟨rfl, HB0.out⟩
  have d2 : ¬ (60 : Int) < (b.length : Int) := by omega
  by_cases h3 : 100 < nm.length
  · have d3 : (100 : Int) < (nm.length : Int) := by omega
    go_wp2_with fail
    go_ret
    exact ⟨rfl, HB0.out⟩
  have d3 : ¬ (100 : Int) < (nm.length : Int) := by omega
  have HFA1 := Lib.hid (HFA.out.on HB0.out)
  have HS1 := Lib.hid (refSortP a A cA w0 HFA1.out (by omega))
  go_wp2_with fail
  refine HS1.out.mono ?_
  rintro e1 w1 ⟨A1, c1, rfl, hf1, hb1⟩
  have HF1 := Lib.hid hf1
  have HB1 := Lib.hid (HB0.out.trans (hb1.mono HB0.out.size))
  clear hf1 hb1 HS1 HB0 HFA1
  have HS2 := Lib.hid (refSortP b B cB w1 (HFB0.out.on HB1.out) (by omega))
  go_wp2_with fail
  refine HS2.out.mono ?_
  rintro e2 w2 ⟨A2, c2, rfl, hf2, hb2⟩
  have HF2 := Lib.hid hf2
  have HF1b := Lib.hid (HF1.out.on hb2)
  have HB2 := Lib.hid (HB1.out.trans (hb2.mono HB1.out.size))
  clear hf2 hb2 HS2 HB1 HF1
  obtain ⟨i0, hi0, hz0, hz1, hz2⟩ := infoFault
  have HBE := Lib.hid ((Below.refl w2.heap.size w2).alloc (Nat.le_refl _) (.cells #[] 28))
  have HOWE := Lib.hid (show (w2.alloc (.cells #[] 28)).ownsRow w2.heap.size 28 3 (.slice (some ⟨w2.heap.size, 0, none⟩) 0 0) 0 [] from World.ownsRow_lit w2 #[] 0 (Nat.le_refl _) (by unfold maxLen; omega) rfl)
  have HSA := Lib.hid ((HFA.out.on (HB2.out.trans (HBE.out.mono HB2.out.size))).src)
  have HFB := Lib.hid (HFB0.out.on HB2.out)
  obtain ⟨N11, hN11⟩ : ∃ N, a.length + b.length = N := ⟨_, rfl⟩
  have HN11 := Lib.hid hN11
  clear hN11
  go_wp2_with (first
    | (at_builtin; refine wpList_append_src _ rfl _ _ _ rfl w2.heap.size 28 i0 _ 3 48 Tryd.underlying22 hi0 hz0 hz1 hz2 rfl (by omega) (.slice A10 a.length c10) a.length (fFlat a) rfl HOW10.out B b.length cB (fFlat b) rfl (fFlat_length _) HSR9.out (fFlat_one _) (by unfold maxLen; omega) (by omega) (by omega) N11 HN11.out ?_; intro A11 c11 w11 hown11 hg11 hat11; have HB11 := Lib.hid (HB10.out.grown hg11 HB10.out.size (fun b hb => by have := own_far HOW10.out (k := b); exact Nat.le_of_not_lt (fun hlt => this hlt hb.symm))); have HOW11 := Lib.hid (show w11.ownsRow w2.heap.size 28 3 (.slice A11 N11 c11) N11 (fFlat (a ++ b)) by rw [fFlat_append]; exact hown11); clear hown11 hg11 hat11)
    | (at_builtin; refine wpList_append_src _ rfl _ _ _ rfl w2.heap.size 28 i0 _ 3 48 Tryd.underlying22 hi0 hz0 hz1 hz2 rfl (by omega) (.slice (some ⟨w2.heap.size, 0, none⟩) 0 0) 0 [] rfl HOWE.out A a.length cA (fFlat a) rfl (fFlat_length _) HSA.out (fFlat_one _) (by unfold maxLen; omega) (by omega) (by simp) a.length (by omega) ?_; intro A10 c10 w10 hown10 hg10 hat10; have HB10 := Lib.hid (HBE.out.grown hg10 HBE.out.size (fun b hb => by rw [ownBlock_is13 hb]; exact Nat.le_refl _)); have HOW10 := Lib.hid (show w10.ownsRow w2.heap.size 28 3 (.slice A10 a.length c10) a.length (fFlat a) from hown10); have HSR9 := Lib.hid ((HFB.out.on HB10.out).src); have hs10 := HB10.out.size; clear hown10 hg10 hat10))
  obtain ⟨hfa, hn11⟩ := fat_own HOW11.out
  have HB12 := Lib.hid (HB2.out.trans (HB11.out.mono HB2.out.size))
  have HS3 := Lib.hid (refSortP (a ++ b) A11 c11 w11 hfa (by rw [List.length_append]; omega))
  rw [← hn11] at HS3
  have HF1c := Lib.hid (HF1b.out.on HB11.out)
  have HF2c := Lib.hid (HF2.out.on HB11.out)
  clear hfa hn11 HSA HFB HSR9 HOW10 HOW11 HOWE HBE HB2 HF1b HF2 HB10 hs10 HB11
  refine HS3.out.mono ?_
  rintro e3 w3 ⟨A3, c3, rfl, hf3, hb3⟩
  have HF3 := Lib.hid hf3
  have HF1 := Lib.hid (HF1c.out.on hb3)
  have HF2 := Lib.hid (HF2c.out.on hb3)
  have HB3 := Lib.hid (HB12.out.trans (hb3.mono HB12.out.size))
  have HFA3 := Lib.hid (HFA.out.on HB3.out)
  clear hf3 hb3 HS3 HB12 HF1c HF2c
  go_wp2_with fail
  go_loopw [11, 12] (fun u11 i12 wr => ∃ (i : Nat) (Au : Option Addr) (cu : Nat), u11 = .slice Au i cu ∧ i12 = .int .i64 i ∧ i ≤ a.length ∧ wr.ownsRow w3.heap.size 28 3 (.slice Au i cu) i (fFlat (Fl.under (text [nm]) (a.take i))) ∧ Below w3.heap.size w3 wr) (fun _ i _ => a.length - (intOf i).toNat)
  case atStart => exact ⟨0, none, 0, rfl, rfl, Nat.zero_le _, ⟨by simp [Fl.under, fFlat], .inl ⟨rfl, rfl⟩⟩, Below.refl _ _⟩
  case round =>
    obtain ⟨i, Au, cu, rfl, rfl, hi, hown, hbr⟩ := hrel
    obtain ⟨wz, hwz⟩ : ∃ W, W = wr := ⟨_, rfl⟩
    subst hwz
    have HO := Lib.hid hown
    have HBR := Lib.hid hbr
    clear hown hbr
    by_cases hlt : i < a.length
    · have hii : (i : Int) < (a.length : Int) := by omega
      obtain ⟨g, o, hA, c0, c1', c2'⟩ := HFA3.out.sl i _ (List.getElem?_eq_getElem hlt)
      have hil := HLA.out _ (List.getElem_mem hlt)
      obtain ⟨x, hx⟩ : ∃ x, a[i]'hlt = x := ⟨_, rfl⟩
      have HNU := Lib.hid (show Fl.under (text [nm]) (a.take (i + 1)) = Fl.under (text [nm]) (a.take i) ++ [{ x with inst := text [nm] ++ x.inst }] by rw [List.take_succ_eq_append_getElem hlt, hx]; simp [Fl.under])
      rw [hx] at c0 c1' c2' hil
      clear hx
      obtain ⟨x1, x2, x3⟩ := x
      simp only at c0 c1' c2' hil HNU
      subst hA
      have HXC := Lib.hid (fun (W : World) (h : Below w3.heap.size w3 W) => (⟨le_below h _ _ c0, le_below h _ _ c1', le_below h _ _ c2'⟩ : W.cell? ⟨g, o + i * 3, none⟩ = some (.string ⟨x1.toArray⟩) ∧ W.cell? ⟨g, o + i * 3 + 1, none⟩ = some (.string ⟨x2.toArray⟩) ∧ W.cell? ⟨g, o + i * 3 + 2, none⟩ = some (.string ⟨x3.toArray⟩)))
      clear c0 c1' c2'
      have htl : (text [nm]).length ≤ 1000 := by
        have := text_len 100 [nm] (fun n hn => by rw [List.mem_singleton.1 hn]; omega)
        simp at this; omega
      have hcat : ∀ W, (Op.stringOp .add ⟨(text [nm]).toArray⟩ ⟨x1.toArray⟩).run Tryd.prog W = .ok (.string ⟨(text [nm] ++ x1).toArray⟩) W := fun W => cat_mk W _ _ (by omega)
      have HP := Lib.hid (fun W (gs : Nat) (h : Strs W.cell? (some ⟨gs, 0, none⟩) [nm]) => refPath_any [nm] (some ⟨gs, 0, none⟩) 1 W h (Nat.le_refl _) (by unfold maxLen; omega) (by omega))
      go_upto_region 11 with (fail)
      have HBD := Lib.hid (show Below wz.heap.size wz wz.drew from below_drewN (Below.refl _ _) 1)
      refine wp_region_held_drew (S := fun W9 => Below w3.heap.size w3 W9) (by kernel_rfl) (HBR.out.trans (HBD.out.mono HBR.out.size)) (fun ht => ?_)
      generalize wz.drew = w8 at *
      refine wpAnyH_take (i := 0) (oi := ⟨some _, _, _, _, _, _⟩) (v := (.slice Au i cu)) rfl (by kernel_rfl) (by kernel_rfl) (by kernel_rfl) (fun _ _ _ h => h) (Or.inl ⟨by rfl, ?_⟩) ht ?_
      · intro W9 hSw
        go_simp
      try simp only [Act.put, List.setIfInBounds_toArray, List.set_cons_zero, List.set_cons_succ]
      refine wpAnyH_take (i := 1) (oi := ⟨some _, _, _, _, _, _⟩) (v := (.string ⟨nm.toArray⟩)) rfl (by kernel_rfl) (by kernel_rfl) (by kernel_rfl) (fun _ _ _ h => h) (Or.inl ⟨by rfl, ?_⟩) ht ?_
      · intro W9 hSw
        go_simp
      try simp only [Act.put, List.setIfInBounds_toArray, List.set_cons_zero, List.set_cons_succ]
      refine wpAnyH_take (i := 4) (oi := ⟨some _, _, _, _, _, _⟩) (v := (.slice (some ⟨g, o, none⟩) a.length cA)) rfl (by kernel_rfl) (by kernel_rfl) (by kernel_rfl) (fun _ _ _ h => h) (Or.inl ⟨by rfl, ?_⟩) ht ?_
      · intro W9 hSw
        go_simp
      try simp only [Act.put, List.setIfInBounds_toArray, List.set_cons_zero, List.set_cons_succ]
      refine wpAnyH_take (i := 5) (oi := ⟨some _, _, _, _, _, _⟩) (v := (.int .i64 i)) rfl (by kernel_rfl) (by kernel_rfl) (by kernel_rfl) (fun _ _ _ h => h) (Or.inl ⟨by rfl, ?_⟩) ht ?_
      · intro W9 hSw
        go_simp
      try simp only [Act.put, List.setIfInBounds_toArray, List.set_cons_zero, List.set_cons_succ]
      refine wpAnyH_take (i := 6) (oi := ⟨some _, _, _, _, _, _⟩) (v := (.pointer (some ⟨g, o + i * 3, none⟩))) rfl (by kernel_rfl) (by kernel_rfl) (by kernel_rfl) (fun _ _ _ h => h) (Or.inl ⟨by rfl, ?_⟩) ht ?_
      · intro W9 hSw
        go_simp
      try simp only [Act.put, List.setIfInBounds_toArray, List.set_cons_zero, List.set_cons_succ]
      refine wpAnyH_take (i := 7) (oi := ⟨some _, _, _, _, _, _⟩) (v := (.pointer (some ⟨g, o + i * 3, none⟩))) rfl (by kernel_rfl) (by kernel_rfl) (by kernel_rfl) (fun _ _ _ h => h) (Or.inl ⟨by rfl, ?_⟩) ht ?_
      · intro W9 hSw
        go_simp
      try simp only [Act.put, List.setIfInBounds_toArray, List.set_cons_zero, List.set_cons_succ]
      refine wpAnyH_take (i := 8) (oi := ⟨some _, _, _, _, _, _⟩) (v := (.string ⟨x1.toArray⟩)) rfl (by kernel_rfl) (by kernel_rfl) (by kernel_rfl) (fun _ _ _ h => h) (Or.inl ⟨by rfl, ?_⟩) ht ?_
      · intro W9 hSw
        obtain ⟨c0, c1, c2⟩ := HXC.out W9 hSw
        have hgl := World.block_lt_of_cell? _ _ c0
        go_simp
      try simp only [Act.put, List.setIfInBounds_toArray, List.set_cons_zero, List.set_cons_succ]
      refine wpAnyH_take (i := 10) (oi := ⟨some _, _, _, _, _, _⟩) (v := (.slice (some ⟨g, o, none⟩) a.length cA)) rfl (by kernel_rfl) (by kernel_rfl) (by kernel_rfl) (fun _ _ _ h => h) (Or.inl ⟨by rfl, ?_⟩) ht ?_
      · intro W9 hSw
        go_simp
      try simp only [Act.put, List.setIfInBounds_toArray, List.set_cons_zero, List.set_cons_succ]
      refine wpAnyH_take (i := 11) (oi := ⟨some _, _, _, _, _, _⟩) (v := (.int .i64 i)) rfl (by kernel_rfl) (by kernel_rfl) (by kernel_rfl) (fun _ _ _ h => h) (Or.inl ⟨by rfl, ?_⟩) ht ?_
      · intro W9 hSw
        go_simp
      try simp only [Act.put, List.setIfInBounds_toArray, List.set_cons_zero, List.set_cons_succ]
      refine wpAnyH_take (i := 12) (oi := ⟨some _, _, _, _, _, _⟩) (v := (.pointer (some ⟨g, o + i * 3, none⟩))) rfl (by kernel_rfl) (by kernel_rfl) (by kernel_rfl) (fun _ _ _ h => h) (Or.inl ⟨by rfl, ?_⟩) ht ?_
      · intro W9 hSw
        go_simp
      try simp only [Act.put, List.setIfInBounds_toArray, List.set_cons_zero, List.set_cons_succ]
      refine wpAnyH_take (i := 13) (oi := ⟨some _, _, _, _, _, _⟩) (v := (.pointer (some ⟨g, o + i * 3 + 1, none⟩))) rfl (by kernel_rfl) (by kernel_rfl) (by kernel_rfl) (fun _ _ _ h => h) (Or.inl ⟨by rfl, ?_⟩) ht ?_
      · intro W9 hSw
        go_simp
      try simp only [Act.put, List.setIfInBounds_toArray, List.set_cons_zero, List.set_cons_succ]
      refine wpAnyH_take (i := 14) (oi := ⟨some _, _, _, _, _, _⟩) (v := (.string ⟨x2.toArray⟩)) rfl (by kernel_rfl) (by kernel_rfl) (by kernel_rfl) (fun _ _ _ h => h) (Or.inl ⟨by rfl, ?_⟩) ht ?_
      · intro W9 hSw
        obtain ⟨c0, c1, c2⟩ := HXC.out W9 hSw
        have hgl := World.block_lt_of_cell? _ _ c0
        go_simp
      try simp only [Act.put, List.setIfInBounds_toArray, List.set_cons_zero, List.set_cons_succ]
      refine wpAnyH_take (i := 15) (oi := ⟨some _, _, _, _, _, _⟩) (v := (.slice (some ⟨g, o, none⟩) a.length cA)) rfl (by kernel_rfl) (by kernel_rfl) (by kernel_rfl) (fun _ _ _ h => h) (Or.inl ⟨by rfl, ?_⟩) ht ?_
      · intro W9 hSw
        go_simp
      try simp only [Act.put, List.setIfInBounds_toArray, List.set_cons_zero, List.set_cons_succ]
      refine wpAnyH_take (i := 16) (oi := ⟨some _, _, _, _, _, _⟩) (v := (.int .i64 i)) rfl (by kernel_rfl) (by kernel_rfl) (by kernel_rfl) (fun _ _ _ h => h) (Or.inl ⟨by rfl, ?_⟩) ht ?_
      · intro W9 hSw
        go_simp
      try simp only [Act.put, List.setIfInBounds_toArray, List.set_cons_zero, List.set_cons_succ]
      refine wpAnyH_take (i := 17) (oi := ⟨some _, _, _, _, _, _⟩) (v := (.pointer (some ⟨g, o + i * 3, none⟩))) rfl (by kernel_rfl) (by kernel_rfl) (by kernel_rfl) (fun _ _ _ h => h) (Or.inl ⟨by rfl, ?_⟩) ht ?_
      · intro W9 hSw
        go_simp
      try simp only [Act.put, List.setIfInBounds_toArray, List.set_cons_zero, List.set_cons_succ]
      refine wpAnyH_take (i := 18) (oi := ⟨some _, _, _, _, _, _⟩) (v := (.pointer (some ⟨g, o + i * 3 + 2, none⟩))) rfl (by kernel_rfl) (by kernel_rfl) (by kernel_rfl) (fun _ _ _ h => h) (Or.inl ⟨by rfl, ?_⟩) ht ?_
      · intro W9 hSw
        go_simp
      try simp only [Act.put, List.setIfInBounds_toArray, List.set_cons_zero, List.set_cons_succ]
      refine wpAnyH_take (i := 19) (oi := ⟨some _, _, _, _, _, _⟩) (v := (.string ⟨x3.toArray⟩)) rfl (by kernel_rfl) (by kernel_rfl) (by kernel_rfl) (fun _ _ _ h => h) (Or.inl ⟨by rfl, ?_⟩) ht ?_
      · intro W9 hSw
        obtain ⟨c0, c1, c2⟩ := HXC.out W9 hSw
        have hgl := World.block_lt_of_cell? _ _ c0
        go_simp
      try simp only [Act.put, List.setIfInBounds_toArray, List.set_cons_zero, List.set_cons_succ]
      refine wpAnyH_ready (rs := [2]) (by kernel_rfl) (by simp) ?_
      refine AllReadyH.cons (o := ⟨some _, _, _, _, _, _⟩) rfl (fun K hK => ?_) (AllReadyH.nil)
      go_simp
      refine via10 (K := K) (fun W9 => Below w3.heap.size w3 W9 ∧ Below wz.heap.size wz W9 ∧ Strs W9.cell? (some ⟨w8.heap.size, 0, none⟩) [nm]) ⟨ht.alloc ht.size _, HBD.out.alloc HBD.out.size _, strs_one13 w8 _ nm⟩ ?_
      rintro w4 ⟨ht4, hz4, hn4⟩
      have HN4 := Lib.hid hn4
      have HZ4 := Lib.hid hz4
      clear hn4 ht hz4 HBD
      refine hK.out _ _ ht4 (fun ht => ?_)
      clear hK K ht4
      try simp only [Act.put, List.setIfInBounds_toArray, List.set_cons_zero, List.set_cons_succ]
      obtain ⟨gS, hgS⟩ : ∃ g, g = w8.heap.size := ⟨_, rfl⟩
      rw [← hgS] at HN4 ⊢
      clear hgS
      refine wpAnyH_ready (rs := [3]) (by kernel_rfl) (by simp) ?_
      refine AllReadyH.cons (o := ⟨some _, _, _, _, _, _⟩) rfl (fun K hK => ?_) (AllReadyH.nil)
      go_simp
      refine (HP.out _ gS HN4.out).mono ?_
      rintro e5 w5 ⟨rfl, hb5⟩
      have HZ5 := Lib.hid (HZ4.out.trans (hb5.mono HZ4.out.size))
      have hb5 := ht.trans (hb5.mono ht.size)
      clear ht HN4 HZ4
      go_wp2_with fail
      refine hK.out _ _ hb5 (fun ht => ?_)
      clear hK K hb5
      try simp only [Act.put, List.setIfInBounds_toArray, List.set_cons_zero, List.set_cons_succ]
      refine wpAnyH_take (i := 9) (oi := ⟨some _, _, _, _, _, _⟩) (v := (.string ⟨(text [nm] ++ x1).toArray⟩)) rfl (by kernel_rfl) (by kernel_rfl) (by kernel_rfl) (fun _ _ _ h => h) (Or.inl ⟨by rfl, ?_⟩) ht ?_
      · intro W9 hSw
        go_simp
      try simp only [Act.put, List.setIfInBounds_toArray, List.set_cons_zero, List.set_cons_succ]
      refine wpAnyH_take (i := 20) (oi := ⟨some _, _, _, _, _, _⟩) (v := (.agg #[.string ⟨(text [nm] ++ x1).toArray⟩, .string ⟨x2.toArray⟩, .string ⟨x3.toArray⟩])) rfl (by kernel_rfl) (by kernel_rfl) (by kernel_rfl) (fun _ _ _ h => h) (Or.inl ⟨by rfl, ?_⟩) ht ?_
      · intro W9 hSw
        go_simp
      try simp only [Act.put, List.setIfInBounds_toArray, List.set_cons_zero, List.set_cons_succ]
      refine wpAnyH_ready (rs := [21]) (by kernel_rfl) (by simp) ?_
      refine AllReadyH.cons (o := ⟨some _, _, _, _, _, _⟩) rfl (fun K hK => ?_) (AllReadyH.nil)
      go_simp
      refine via10 (K := K) (fun W9 => Below w3.heap.size w3 W9 ∧ Below wz.heap.size wz W9 ∧ (∀ j u, (fCells ⟨text [nm] ++ x1, x2, x3⟩)[j]? = some u → W9.cell? ((⟨w5.heap.size, 0, none⟩ : Addr).add j) = some u)) ⟨ht.alloc ht.size _, HZ5.out.alloc HZ5.out.size _, fun j u hu => by rw [add_at13, Nat.zero_add, (Blk.new w5 28 #[.string ⟨(text [nm] ++ x1).toArray⟩, .string ⟨x2.toArray⟩, .string ⟨x3.toArray⟩]).cell j]; simpa [fCells] using hu⟩ ?_
      rintro w6 ⟨ht6, hz6, hn6⟩
      have HN6 := Lib.hid hn6
      have HZ6 := Lib.hid hz6
      clear hn6 ht hz6 HZ5
      refine hK.out _ _ ht6 (fun ht => ?_)
      clear hK K ht6
      try simp only [Act.put, List.setIfInBounds_toArray, List.set_cons_zero, List.set_cons_succ]
      obtain ⟨gF, hgF⟩ : ∃ g, g = w5.heap.size := ⟨_, rfl⟩
      rw [← hgF] at HN6 ⊢
      clear hgF
      refine wpAnyH_ready (rs := [22]) (by kernel_rfl) (by simp) ?_
      refine AllReadyH.cons (o := ⟨some _, _, _, _, _, _⟩) rfl (fun K hK => ?_) (AllReadyH.nil)
      have HOW := Lib.hid (own_keep HO.out (fun k _ hk => HZ6.out.block k hk))
      refine step_append_lies _ rfl _ _ _ rfl w3.heap.size 28 i0 _ 3 48 Tryd.underlying22 hi0 hz0 hz1 hz2 rfl (by omega) (.slice Au i cu) i (fFlat (Fl.under (text [nm]) (a.take i))) rfl HOW.out ⟨gF, 0, none⟩ 1 1 (fCells ⟨text [nm] ++ x1, x2, x3⟩) rfl rfl HN6.out (by simp [fCells, Value.oneCell']) (by omega) (by unfold maxLen; omega) (by omega) ht.size _ rfl ?_
      intro g9 c9 w9 hown9 hg9 hat9 hlt9
      have hb3 : Below w3.heap.size w3 w9 := ht.grown hg9 ht.size (fun k hk => by have := own_far HOW.out (k := k); exact Nat.le_of_not_lt (fun h => this h hk.symm))
      have HB9 := Lib.hid hb3
      have HOW9 := Lib.hid (show w9.ownsRow w3.heap.size 28 3 (.slice (some ⟨g9, 0, none⟩) (i + 1) c9) (i + 1) (fFlat (Fl.under (text [nm]) (a.take (i + 1)))) by rw [HNU.out, fFlat_append]; exact hown9)
      clear hown9 hg9 hat9 HOW HN6 ht HZ6
      refine hK.out _ _ hb3 (fun ht => ?_)
      clear hK K hb3
      try simp only [Act.put, List.setIfInBounds_toArray, List.set_cons_zero, List.set_cons_succ]
      refine wpAnyH_take (i := 23) (oi := ⟨some _, _, _, _, _, _⟩) (v := (.slice (some ⟨g9, 0, none⟩) (i + 1) c9)) rfl (by kernel_rfl) (by kernel_rfl) (by kernel_rfl) (fun _ _ _ h => h) (Or.inl ⟨by rfl, ?_⟩) ht ?_
      · intro W9 hSw
        go_simp
      try simp only [Act.put, List.setIfInBounds_toArray, List.set_cons_zero, List.set_cons_succ]
      refine wpAnyH_done (by kernel_rfl) ?_ _
      clear ht
      go_wp2_with fail
      go_roundw
      case rel => exact ⟨i + 1, _, c9, rfl, by go_num, by omega, HOW9.out, HB9.out⟩
      case measure => simp [intOf]; omega
    · obtain rfl : i = a.length := by omega
      have hfo := fat_own HO.out
      rw [List.take_length] at hfo
      have HFU := Lib.hid hfo.1
      have HUL := Lib.hid (show a.length = (Fl.under (text [nm]) a).length from hfo.2)
      have HBW := Lib.hid (HB3.out.trans (HBR.out.mono HB3.out.size))
      have HF1r := Lib.hid (HF1.out.on HBR.out)
      have HF2r := Lib.hid (HF2.out.on HBR.out)
      have HF3r := Lib.hid (HF3.out.on HBR.out)
      have HFAr := Lib.hid (HFA3.out.on HBR.out)
      have hsa := Fl.sort_few (l := a)
      have hsb := Fl.sort_few (l := b)
      have HC1 := Lib.hid (HST.out a A cA wz (HG.out _ HBW.out) HFAr.out (by omega))
      clear hfo HO HBR HF1 HF2 HF3 HFA3
      go_wp2_with fail
      refine HC1.out.mono ?_
      rintro e4 w4 ⟨A4, c4, rfl, hf4, hb4⟩
      have HB4 := Lib.hid (HBW.out.trans (hb4.mono HBW.out.size))
      have HD1 := Lib.hid (sameFP (Fl.sort a) A4 c4 A1 c1 w4 hf4 (HF1r.out.on hb4))
      have HF1s := Lib.hid (HF1r.out.on hb4)
      have HF2s := Lib.hid (HF2r.out.on hb4)
      have HF3s := Lib.hid (HF3r.out.on hb4)
      have HFAs := Lib.hid (HFAr.out.on hb4)
      have HFUs := Lib.hid (HFU.out.on hb4)
      clear hf4 hb4 HC1 HF1r HF2r HF3r HFAr HFU HBW
      go_wp2_with fail
      refine HD1.out.mono ?_
      rintro e5 w5 ⟨rfl, hb5⟩
      have HB5 := Lib.hid (HB4.out.trans (hb5.mono HB4.out.size))
      have HC2 := Lib.hid (HMT.out (Fl.sort a) (Fl.sort b) A1 A2 c1 c2 w5 (HG.out _ HB5.out) (HF1s.out.on hb5) (HF2s.out.on hb5) (Fl.sort_rises a) (Fl.sort_rises b) (by omega) (by omega))
      rw [Fl.sort_both] at HC2
      have HF3t := Lib.hid (HF3s.out.on hb5)
      have HFAt := Lib.hid (HFAs.out.on hb5)
      have HFUt := Lib.hid (HFUs.out.on hb5)
      clear hb5 HD1 HB4 HF1s HF2s HF3s HFAs HFUs
      go_wp2_with fail
      refine HC2.out.mono ?_
      rintro e6 w6 ⟨A6, c6, rfl, hf6, hb6⟩
      have HB6 := Lib.hid (HB5.out.trans (hb6.mono HB5.out.size))
      have HD2 := Lib.hid (sameFP (Fl.sort (a ++ b)) A6 c6 A3 c3 w6 hf6 (HF3t.out.on hb6))
      have HFAu := Lib.hid (HFAt.out.on hb6)
      have HFUu := Lib.hid (HFUt.out.on hb6)
      clear hf6 hb6 HC2 HB5 HF3t HFAt HFUt
      go_wp2_with fail
      refine HD2.out.mono ?_
      rintro e7 w7 ⟨rfl, hb7⟩
      have HB7 := Lib.hid (HB6.out.trans (hb7.mono HB6.out.size))
      have HC3 := Lib.hid (HUT.out nm a A cA w7 (HG.out _ HB7.out) (by omega) (HFAu.out.on hb7) (by omega) HLA.out)
      have HFUv := Lib.hid (HFUu.out.on hb7)
      clear hb7 HD2 HB6 HFAu HFUu
      go_wp2_with fail
      refine HC3.out.mono ?_
      rintro e8 w8 ⟨A8, c8, rfl, hf8, hb8⟩
      have HB8 := Lib.hid (HB7.out.trans (hb8.mono HB7.out.size))
      have HD3 := Lib.hid (sameFP (Fl.under (text [nm]) a) A8 c8 Au cu w8 hf8 (HFUv.out.on hb8))
      rw [← HUL.out] at HD3 ⊢
      clear hf8 hb8 HC3 HB7 HFUv
      go_wp2_with fail
      refine HD3.out.mono ?_
      rintro e9 w9 ⟨rfl, hb9⟩
      have HB9 := Lib.hid (HB8.out.trans (hb9.mono HB8.out.size))
      clear hb9 HD3 HB8
      go_wp2_with fail
      go_ret
      exact ⟨rfl, HB9.out⟩

end Go.Proofs.YtccacjkogdmleaaDoor

