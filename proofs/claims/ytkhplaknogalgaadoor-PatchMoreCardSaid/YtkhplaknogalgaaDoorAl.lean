/- Al: Ak Al Am, in one text. -/
import Derived.Test.YtkhplaknogalgaaDoorAb
import Derived.Test.YtkhplaknogalgaaDoorRg
import Derived.Test.YtkhplaknogalgaaDoorPq
import Derived.StillTailTactics
import Derived.Deep.RegionHeld3
import Derived.Test.YtkhplaknogalgaaDoorAe
import Derived.Test.YtkhplaknogalgaaDoorMt
import Derived.Test.YtkhplaknogalgaaDoorMr
import Derived.Test.YtkhplaknogalgaaDoorPg
import Derived.KernelRfl
/- The laws of layer 8 (patch): are two lists of operations the same. -/
namespace Go.Proofs.YtkhplaknogalgaaDoor
open Go.RowKit Pt Js Oq

/-- The parts of an operation that lies in memory. -/
theorem CellsAt.op {c : Cl} {g o : Nat} {c0 c1 c2 c3 c4 c5 c6 c7 c8 c9 c10 : Value} (h : CellsAt c g o (.agg #[c0, c1, c2, c3, c4, c5, c6, c7, c8, c9, c10])) :
    c ⟨g, o, none⟩ = some c0 ∧ c ⟨g, o + 1, none⟩ = some c1 ∧ c ⟨g, o + 2, none⟩ = some c2 ∧ CellsAt c g (o + 3) (.agg #[c3, c4, c5, c6, c7, c8, c9, c10]) :=
  ⟨h 0 _ rfl, h 1 _ rfl, h 2 _ rfl, fun j u hu => by
    have := h (3 + j) u (by
      have hj : j < 8 := by have := (Array.getElem?_eq_some_iff.1 hu).1; simpa [Value.cells] using this
      match j, hj, hu with
      | 0, _, hu | 1, _, hu | 2, _, hu | 3, _, hu | 4, _, hu | 5, _, hu | 6, _, hu | 7, _, hu => exact hu)
    rw [show o + (3 + j) = o + 3 + j by omega] at this
    exact this⟩
/-- What an operation's slot is, and what it leads to. -/
theorem OIn.form {c : Cl} {o : Opn} {x : Value} (hx : o.In c x) :
    ∃ (A : Option Addr) (e : Nat) (F : Option Addr) (d : Nat) (k : Int) (b neg : Bool) (dg : List UInt8) (ex : Int) (s : List UInt8) (A1 : Option Addr) (l1 p1 : Nat) (B1 : Option Addr) (m1 d1 : Nat),
      x = opV o.op A o.path.length e F o.src.length d k b neg dg ex s (.slice A1 l1 p1) (.slice B1 m1 d1) ∧ Strs c A o.path ∧ o.path.length ≤ e ∧ e ≤ maxLen ∧ Strs c F o.src ∧ o.src.length ≤ d ∧ d ≤ maxLen ∧
      o.v.In c (vlV k b neg dg ex s (.slice A1 l1 p1) (.slice B1 m1 d1)) := hx

/-- Two operations in memory, while they are looked at. -/
def SameHeld (g o h r : Nat) (c0 c1 c2 d0 d1 d2 : Value) (w w' : World) : Prop :=
  (w'.cell? ⟨g, o, none⟩ = some c0 ∧ w'.cell? ⟨g, o + 1, none⟩ = some c1 ∧ w'.cell? ⟨g, o + 2, none⟩ = some c2) ∧ (w'.cell? ⟨h, r, none⟩ = some d0 ∧ w'.cell? ⟨h, r + 1, none⟩ = some d1 ∧ w'.cell? ⟨h, r + 2, none⟩ = some d2) ∧ Below w.heap.size w w'
section
variable {g o h r : Nat} {c0 c1 c2 d0 d1 d2 : Value} {w w' w'' : World}
theorem SameHeld.on (H : SameHeld g o h r c0 c1 c2 d0 d1 d2 w w') (hb : Below w'.heap.size w' w'') : SameHeld g o h r c0 c1 c2 d0 d1 d2 w w'' :=
  have hle := le_below hb
  ⟨⟨hle _ _ H.1.1, hle _ _ H.1.2.1, hle _ _ H.1.2.2⟩, ⟨hle _ _ H.2.1.1, hle _ _ H.2.1.2.1, hle _ _ H.2.1.2.2⟩, H.2.2.trans (hb.mono H.2.2.size)⟩
theorem SameHeld.drew (H : SameHeld g o h r c0 c1 c2 d0 d1 d2 w w') : SameHeld g o h r c0 c1 c2 d0 d1 d2 w w'.drew := ⟨H.1, H.2.1, H.2.2.drew⟩
theorem SameHeld.below (H : SameHeld g o h r c0 c1 c2 d0 d1 d2 w w') : Below w.heap.size w w' := H.2.2
end

/-- How far the two lists have been looked at. -/
def Alike8 (w : World) (n : Nat) (v : Value) (wr : World) : Prop := ∃ j : Nat, j ≤ n ∧ v = .int .i64 j ∧ Below w.heap.size w wr

set_option linter.unusedVariables false in
set_option linter.unusedSimpArgs false in
set_option maxRecDepth 100000 in
set_option maxHeartbeats 4000000 in
theorem same8_any (l : List Opn) (A B : Option Addr) (e d : Nat) (w : World) (hs : SlO w.cell? A l) (ht : SlO w.cell? B l) (he : l.length ≤ e) (hm : e ≤ maxLen) (hd : l.length ≤ d) (hdm : d ≤ maxLen) :
    Calls Tryd.prog 10 #[.slice A l.length e, .slice B l.length d] w fun e w' => e = .returned (.int .i64 1) ∧ Below w.heap.size w w' := by
  unfold maxLen at hm hdm
  have HS := Lib.hid hs
  have HU := Lib.hid ht
  clear hs ht
  have t1 : ((l.length : Int) != (l.length : Int)) = false := by simp
  go_enter Tryd.func10, Tryd.ntmps10
  go_wp2_with fail
  go_loopw [5] (Alike8 w l.length) (fun v _ => l.length - (intOf v).toNat)
  case atStart => exact ⟨0, by omega, rfl, Below.refl _ _⟩
  case round =>
    obtain ⟨j, hj, rfl, hW⟩ := hrel
    have HW := Lib.hid hW
    clear hW
    by_cases hlt : j < l.length
    · obtain ⟨g, o, y, rfl, hy, hc⟩ := HS.out j _ (List.getElem?_eq_getElem hlt)
      obtain ⟨g', o', y', rfl, hy', hc'⟩ := HU.out j _ (List.getElem?_eq_getElem hlt)
      obtain ⟨P1, pe1, F1, fe1, y_1, y_2, y_3, y_4, y_5, y_6, y_7, y_8, y_9, y_a, y_b, y_c, rfl, hP1, hpe1, hpm1, hF1, hfe1, hfm1, hv1⟩ := OIn.form hy
      obtain ⟨P2, pe2, F2, fe2, z_1, z_2, z_3, z_4, z_5, z_6, z_7, z_8, z_9, z_a, z_b, z_c, rfl, hP2, hpe2, hpm2, hF2, hfe2, hfm2, hv2⟩ := OIn.form hy'
      have hle := le_below HW.out
      obtain ⟨c0, c1, c2, cV⟩ := (hc.keep hle).op
      obtain ⟨e0, e1, e2, eV⟩ := (hc'.keep hle).op
      obtain ⟨c3, c4, c5, c6, c7, c8, c9, c10⟩ := cV.eight
      obtain ⟨e3, e4, e5, e6, e7, e8, e9, e10⟩ := eV.eight
      have hgl := World.block_lt_of_cell? _ _ c0
      have hgl' := World.block_lt_of_cell? _ _ e0
      have HSM := Lib.hid (refSame_any l[j].v l[j].v _ _ wr.drew (In.keep hle _ _ hv1) (In.keep hle _ _ hv2))
      rw [same_refl] at HSM
      have HN1 := Lib.hid (fun W (h : Below wr.heap.size wr W) => names_any l[j].path l[j].path P1 P2 pe1 pe2 W (hP1.keep (hle.trans (le_below h))) (hP2.keep (hle.trans (le_below h))) hpe1 hpm1 hpe2 hpm2)
      have HN2 := Lib.hid (fun W (h : Below wr.heap.size wr W) => names_any l[j].src l[j].src F1 F2 fe1 fe2 W (hF1.keep (hle.trans (le_below h))) (hF2.keep (hle.trans (le_below h))) hfe1 hfm1 hfe2 hfm2)
      rw [alike_eq rfl] at HN1 HN2
      generalize l[j].path.length = np at *
      generalize l[j].src.length = nf at *
      generalize l[j].op = q at *
      have hqq : ((q : Int) != (q : Int)) = false := by simp
      have hj1 : (j : Int) < (l.length : Int) := by omega
      clear hc hc' hy hy' hv1 hv2 hP1 hP2 hF1 hF2 cV eV
      go_upto_region 6 with (fail)
      go_still_tail 10, (by kernel_rfl)
      go_wp2_with fail
      refine HSM.out.mono ?_
      rintro e' w2 ⟨rfl, hb2⟩
      have hbw : Below wr.heap.size wr w2 := (Below.refl wr.heap.size wr).drew.trans hb2
      have HHELD := Lib.hid (SameHeld.on (w := wr) (show SameHeld g (o + j * 11) g' (o' + j * 11) _ _ _ _ _ _ wr wr from ⟨⟨c0, c1, c2⟩, ⟨e0, e1, e2⟩, Below.refl _ _⟩) hbw)
      have HBW := Lib.hid hbw
      clear hb2 hbw HSM hgl hgl' c0 c1 c2 c3 c4 c5 c6 c7 c8 c9 c10 e0 e1 e2 e3 e4 e5 e6 e7 e8 e9 e10 hle
      go_upto_region 7 with (fail)
      -- REGION 7
      refine wp_region_held_drew (S := SameHeld g (o + j * 11) g' (o' + j * 11) (.int .i64 q) (.slice P1 np pe1) (.slice F1 nf fe1) (.int .i64 q) (.slice P2 np pe2) (.slice F2 nf fe2) wr) (by kernel_rfl) HHELD.out.drew (fun ht => ?_)
      refine wpAnyH_take (i := 0) (oi := ⟨some _, _, _, _, _, _⟩) (v := (.slice (some ⟨g, o, none⟩) l.length e)) rfl (by kernel_rfl) (by kernel_rfl) (by kernel_rfl) (fun _ _ _ h => h) (Or.inl ⟨by rfl, ?_⟩) ht ?_
      · intro W9 hSw
        obtain ⟨⟨c0, c1, c2⟩, ⟨d0, d1, d2⟩, cb⟩ := hSw
        go_simp
      try simp only [Act.put, List.setIfInBounds_toArray, List.set_cons_zero, List.set_cons_succ]
      refine wpAnyH_take (i := 1) (oi := ⟨some _, _, _, _, _, _⟩) (v := (.int .i64 j)) rfl (by kernel_rfl) (by kernel_rfl) (by kernel_rfl) (fun _ _ _ h => h) (Or.inl ⟨by rfl, ?_⟩) ht ?_
      · intro W9 hSw
        obtain ⟨⟨c0, c1, c2⟩, ⟨d0, d1, d2⟩, cb⟩ := hSw
        go_simp
      try simp only [Act.put, List.setIfInBounds_toArray, List.set_cons_zero, List.set_cons_succ]
      refine wpAnyH_take (i := 2) (oi := ⟨some _, _, _, _, _, _⟩) (v := (.pointer (some ⟨g, o + j * 11, none⟩))) rfl (by kernel_rfl) (by kernel_rfl) (by kernel_rfl) (fun _ _ _ h => h) (Or.inl ⟨by rfl, ?_⟩) ht ?_
      · intro W9 hSw
        obtain ⟨⟨c0, c1, c2⟩, ⟨d0, d1, d2⟩, cb⟩ := hSw
        go_simp
      try simp only [Act.put, List.setIfInBounds_toArray, List.set_cons_zero, List.set_cons_succ]
      refine wpAnyH_take (i := 3) (oi := ⟨some _, _, _, _, _, _⟩) (v := (.pointer (some ⟨g, o + j * 11, none⟩))) rfl (by kernel_rfl) (by kernel_rfl) (by kernel_rfl) (fun _ _ _ h => h) (Or.inl ⟨by rfl, ?_⟩) ht ?_
      · intro W9 hSw
        obtain ⟨⟨c0, c1, c2⟩, ⟨d0, d1, d2⟩, cb⟩ := hSw
        go_simp
      try simp only [Act.put, List.setIfInBounds_toArray, List.set_cons_zero, List.set_cons_succ]
      refine wpAnyH_take (i := 4) (oi := ⟨some _, _, _, _, _, _⟩) (v := (.int .i64 q)) rfl (by kernel_rfl) (by kernel_rfl) (by kernel_rfl) (fun _ _ _ h => h) (Or.inl ⟨by rfl, ?_⟩) ht ?_
      · intro W9 hSw
        obtain ⟨⟨c0, c1, c2⟩, ⟨d0, d1, d2⟩, cb⟩ := hSw
        go_simp
      try simp only [Act.put, List.setIfInBounds_toArray, List.set_cons_zero, List.set_cons_succ]
      refine wpAnyH_take (i := 5) (oi := ⟨some _, _, _, _, _, _⟩) (v := (.slice (some ⟨g', o', none⟩) l.length d)) rfl (by kernel_rfl) (by kernel_rfl) (by kernel_rfl) (fun _ _ _ h => h) (Or.inl ⟨by rfl, ?_⟩) ht ?_
      · intro W9 hSw
        obtain ⟨⟨c0, c1, c2⟩, ⟨d0, d1, d2⟩, cb⟩ := hSw
        go_simp
      try simp only [Act.put, List.setIfInBounds_toArray, List.set_cons_zero, List.set_cons_succ]
      refine wpAnyH_take (i := 6) (oi := ⟨some _, _, _, _, _, _⟩) (v := (.int .i64 j)) rfl (by kernel_rfl) (by kernel_rfl) (by kernel_rfl) (fun _ _ _ h => h) (Or.inl ⟨by rfl, ?_⟩) ht ?_
      · intro W9 hSw
        obtain ⟨⟨c0, c1, c2⟩, ⟨d0, d1, d2⟩, cb⟩ := hSw
        go_simp
      try simp only [Act.put, List.setIfInBounds_toArray, List.set_cons_zero, List.set_cons_succ]
      refine wpAnyH_take (i := 7) (oi := ⟨some _, _, _, _, _, _⟩) (v := (.pointer (some ⟨g', o' + j * 11, none⟩))) rfl (by kernel_rfl) (by kernel_rfl) (by kernel_rfl) (fun _ _ _ h => h) (Or.inl ⟨by rfl, ?_⟩) ht ?_
      · intro W9 hSw
        obtain ⟨⟨c0, c1, c2⟩, ⟨d0, d1, d2⟩, cb⟩ := hSw
        go_simp
      try simp only [Act.put, List.setIfInBounds_toArray, List.set_cons_zero, List.set_cons_succ]
      refine wpAnyH_take (i := 8) (oi := ⟨some _, _, _, _, _, _⟩) (v := (.pointer (some ⟨g', o' + j * 11, none⟩))) rfl (by kernel_rfl) (by kernel_rfl) (by kernel_rfl) (fun _ _ _ h => h) (Or.inl ⟨by rfl, ?_⟩) ht ?_
      · intro W9 hSw
        obtain ⟨⟨c0, c1, c2⟩, ⟨d0, d1, d2⟩, cb⟩ := hSw
        go_simp
      try simp only [Act.put, List.setIfInBounds_toArray, List.set_cons_zero, List.set_cons_succ]
      refine wpAnyH_take (i := 9) (oi := ⟨some _, _, _, _, _, _⟩) (v := (.int .i64 q)) rfl (by kernel_rfl) (by kernel_rfl) (by kernel_rfl) (fun _ _ _ h => h) (Or.inl ⟨by rfl, ?_⟩) ht ?_
      · intro W9 hSw
        obtain ⟨⟨c0, c1, c2⟩, ⟨d0, d1, d2⟩, cb⟩ := hSw
        go_simp
      try simp only [Act.put, List.setIfInBounds_toArray, List.set_cons_zero, List.set_cons_succ]
      refine wpAnyH_take (i := 10) (oi := ⟨some _, _, _, _, _, _⟩) (v := (.bool false)) rfl (by kernel_rfl) (by kernel_rfl) (by kernel_rfl) (fun _ _ _ h => h) (Or.inl ⟨by rfl, ?_⟩) ht ?_
      · intro W9 hSw
        obtain ⟨⟨c0, c1, c2⟩, ⟨d0, d1, d2⟩, cb⟩ := hSw
        go_simp
      try simp only [Act.put, List.setIfInBounds_toArray, List.set_cons_zero, List.set_cons_succ]
      refine wpAnyH_take (i := 11) (oi := ⟨some _, _, _, _, _, _⟩) (v := (.bool false)) rfl (by kernel_rfl) (by kernel_rfl) (by kernel_rfl) (fun _ _ _ h => h) (Or.inl ⟨by rfl, ?_⟩) ht ?_
      · intro W9 hSw
        obtain ⟨⟨c0, c1, c2⟩, ⟨d0, d1, d2⟩, cb⟩ := hSw
        go_simp
      try simp only [Act.put, List.setIfInBounds_toArray, List.set_cons_zero, List.set_cons_succ]
      refine wpAnyH_take (i := 12) (oi := ⟨some _, _, _, _, _, _⟩) (v := (.slice (some ⟨g, o, none⟩) l.length e)) rfl (by kernel_rfl) (by kernel_rfl) (by kernel_rfl) (fun _ _ _ h => h) (Or.inl ⟨by rfl, ?_⟩) ht ?_
      · intro W9 hSw
        obtain ⟨⟨c0, c1, c2⟩, ⟨d0, d1, d2⟩, cb⟩ := hSw
        go_simp
      try simp only [Act.put, List.setIfInBounds_toArray, List.set_cons_zero, List.set_cons_succ]
      refine wpAnyH_take (i := 13) (oi := ⟨some _, _, _, _, _, _⟩) (v := (.int .i64 j)) rfl (by kernel_rfl) (by kernel_rfl) (by kernel_rfl) (fun _ _ _ h => h) (Or.inl ⟨by rfl, ?_⟩) ht ?_
      · intro W9 hSw
        obtain ⟨⟨c0, c1, c2⟩, ⟨d0, d1, d2⟩, cb⟩ := hSw
        go_simp
      try simp only [Act.put, List.setIfInBounds_toArray, List.set_cons_zero, List.set_cons_succ]
      refine wpAnyH_take (i := 14) (oi := ⟨some _, _, _, _, _, _⟩) (v := (.pointer (some ⟨g, o + j * 11, none⟩))) rfl (by kernel_rfl) (by kernel_rfl) (by kernel_rfl) (fun _ _ _ h => h) (Or.inl ⟨by rfl, ?_⟩) ht ?_
      · intro W9 hSw
        obtain ⟨⟨c0, c1, c2⟩, ⟨d0, d1, d2⟩, cb⟩ := hSw
        go_simp
      try simp only [Act.put, List.setIfInBounds_toArray, List.set_cons_zero, List.set_cons_succ]
      refine wpAnyH_take (i := 15) (oi := ⟨some _, _, _, _, _, _⟩) (v := (.pointer (some ⟨g, o + j * 11 + 1, none⟩))) rfl (by kernel_rfl) (by kernel_rfl) (by kernel_rfl) (fun _ _ _ h => h) (Or.inl ⟨by rfl, ?_⟩) ht ?_
      · intro W9 hSw
        obtain ⟨⟨c0, c1, c2⟩, ⟨d0, d1, d2⟩, cb⟩ := hSw
        go_simp
      try simp only [Act.put, List.setIfInBounds_toArray, List.set_cons_zero, List.set_cons_succ]
      refine wpAnyH_take (i := 16) (oi := ⟨some _, _, _, _, _, _⟩) (v := (.slice P1 np pe1)) rfl (by kernel_rfl) (by kernel_rfl) (by kernel_rfl) (fun _ _ _ h => h) (Or.inl ⟨by rfl, ?_⟩) ht ?_
      · intro W9 hSw
        obtain ⟨⟨c0, c1, c2⟩, ⟨d0, d1, d2⟩, cb⟩ := hSw
        go_simp
      try simp only [Act.put, List.setIfInBounds_toArray, List.set_cons_zero, List.set_cons_succ]
      refine wpAnyH_take (i := 17) (oi := ⟨some _, _, _, _, _, _⟩) (v := (.slice (some ⟨g', o', none⟩) l.length d)) rfl (by kernel_rfl) (by kernel_rfl) (by kernel_rfl) (fun _ _ _ h => h) (Or.inl ⟨by rfl, ?_⟩) ht ?_
      · intro W9 hSw
        obtain ⟨⟨c0, c1, c2⟩, ⟨d0, d1, d2⟩, cb⟩ := hSw
        go_simp
      try simp only [Act.put, List.setIfInBounds_toArray, List.set_cons_zero, List.set_cons_succ]
      refine wpAnyH_take (i := 18) (oi := ⟨some _, _, _, _, _, _⟩) (v := (.int .i64 j)) rfl (by kernel_rfl) (by kernel_rfl) (by kernel_rfl) (fun _ _ _ h => h) (Or.inl ⟨by rfl, ?_⟩) ht ?_
      · intro W9 hSw
        obtain ⟨⟨c0, c1, c2⟩, ⟨d0, d1, d2⟩, cb⟩ := hSw
        go_simp
      try simp only [Act.put, List.setIfInBounds_toArray, List.set_cons_zero, List.set_cons_succ]
      refine wpAnyH_take (i := 19) (oi := ⟨some _, _, _, _, _, _⟩) (v := (.pointer (some ⟨g', o' + j * 11, none⟩))) rfl (by kernel_rfl) (by kernel_rfl) (by kernel_rfl) (fun _ _ _ h => h) (Or.inl ⟨by rfl, ?_⟩) ht ?_
      · intro W9 hSw
        obtain ⟨⟨c0, c1, c2⟩, ⟨d0, d1, d2⟩, cb⟩ := hSw
        go_simp
      try simp only [Act.put, List.setIfInBounds_toArray, List.set_cons_zero, List.set_cons_succ]
      refine wpAnyH_take (i := 20) (oi := ⟨some _, _, _, _, _, _⟩) (v := (.pointer (some ⟨g', o' + j * 11 + 1, none⟩))) rfl (by kernel_rfl) (by kernel_rfl) (by kernel_rfl) (fun _ _ _ h => h) (Or.inl ⟨by rfl, ?_⟩) ht ?_
      · intro W9 hSw
        obtain ⟨⟨c0, c1, c2⟩, ⟨d0, d1, d2⟩, cb⟩ := hSw
        go_simp
      try simp only [Act.put, List.setIfInBounds_toArray, List.set_cons_zero, List.set_cons_succ]
      refine wpAnyH_take (i := 21) (oi := ⟨some _, _, _, _, _, _⟩) (v := (.slice P2 np pe2)) rfl (by kernel_rfl) (by kernel_rfl) (by kernel_rfl) (fun _ _ _ h => h) (Or.inl ⟨by rfl, ?_⟩) ht ?_
      · intro W9 hSw
        obtain ⟨⟨c0, c1, c2⟩, ⟨d0, d1, d2⟩, cb⟩ := hSw
        go_simp
      try simp only [Act.put, List.setIfInBounds_toArray, List.set_cons_zero, List.set_cons_succ]
      refine wpAnyH_ready (rs := [22]) (by kernel_rfl) (by simp) ?_
      refine AllReadyH.cons (o := ⟨some _, _, _, _, _, _⟩) rfl (fun K hK => ?_) AllReadyH.nil
      go_simp
      refine (HN1.out _ ht.below).mono ?_
      rintro e66 w66 ⟨rfl, hb66⟩
      have hs : SameHeld g (o + j * 11) g' (o' + j * 11) (.int .i64 q) (.slice P1 np pe1) (.slice F1 nf fe1) (.int .i64 q) (.slice P2 np pe2) (.slice F2 nf fe2) wr w66 := SameHeld.on ht hb66
      clear hb66 ht
      go_wp2_with fail
      refine hK.out _ _ hs (fun ht => ?_)
      clear hK K hs
      try simp only [Act.put, List.setIfInBounds_toArray, List.set_cons_zero, List.set_cons_succ]
      refine wpAnyH_take (i := 23) (oi := ⟨some _, _, _, _, _, _⟩) (v := (.bool false)) rfl (by kernel_rfl) (by kernel_rfl) (by kernel_rfl) (fun _ _ _ h => h) (Or.inl ⟨by rfl, ?_⟩) ht ?_
      · intro W9 hSw
        obtain ⟨⟨c0, c1, c2⟩, ⟨d0, d1, d2⟩, cb⟩ := hSw
        go_simp
      try simp only [Act.put, List.setIfInBounds_toArray, List.set_cons_zero, List.set_cons_succ]
      refine wpAnyH_take (i := 24) (oi := ⟨some _, _, _, _, _, _⟩) (v := (.bool false)) rfl (by kernel_rfl) (by kernel_rfl) (by kernel_rfl) (fun _ _ _ h => h) (Or.inl ⟨by rfl, ?_⟩) ht ?_
      · intro W9 hSw
        obtain ⟨⟨c0, c1, c2⟩, ⟨d0, d1, d2⟩, cb⟩ := hSw
        go_simp
      try simp only [Act.put, List.setIfInBounds_toArray, List.set_cons_zero, List.set_cons_succ]
      refine wpAnyH_take (i := 25) (oi := ⟨some _, _, _, _, _, _⟩) (v := (.bool false)) rfl (by kernel_rfl) (by kernel_rfl) (by kernel_rfl) (fun _ _ _ h => h) (Or.inl ⟨by rfl, ?_⟩) ht ?_
      · intro W9 hSw
        obtain ⟨⟨c0, c1, c2⟩, ⟨d0, d1, d2⟩, cb⟩ := hSw
        go_simp
      try simp only [Act.put, List.setIfInBounds_toArray, List.set_cons_zero, List.set_cons_succ]
      refine wpAnyH_take (i := 26) (oi := ⟨some _, _, _, _, _, _⟩) (v := (.slice (some ⟨g, o, none⟩) l.length e)) rfl (by kernel_rfl) (by kernel_rfl) (by kernel_rfl) (fun _ _ _ h => h) (Or.inl ⟨by rfl, ?_⟩) ht ?_
      · intro W9 hSw
        obtain ⟨⟨c0, c1, c2⟩, ⟨d0, d1, d2⟩, cb⟩ := hSw
        go_simp
      try simp only [Act.put, List.setIfInBounds_toArray, List.set_cons_zero, List.set_cons_succ]
      refine wpAnyH_take (i := 27) (oi := ⟨some _, _, _, _, _, _⟩) (v := (.int .i64 j)) rfl (by kernel_rfl) (by kernel_rfl) (by kernel_rfl) (fun _ _ _ h => h) (Or.inl ⟨by rfl, ?_⟩) ht ?_
      · intro W9 hSw
        obtain ⟨⟨c0, c1, c2⟩, ⟨d0, d1, d2⟩, cb⟩ := hSw
        go_simp
      try simp only [Act.put, List.setIfInBounds_toArray, List.set_cons_zero, List.set_cons_succ]
      refine wpAnyH_take (i := 28) (oi := ⟨some _, _, _, _, _, _⟩) (v := (.pointer (some ⟨g, o + j * 11, none⟩))) rfl (by kernel_rfl) (by kernel_rfl) (by kernel_rfl) (fun _ _ _ h => h) (Or.inl ⟨by rfl, ?_⟩) ht ?_
      · intro W9 hSw
        obtain ⟨⟨c0, c1, c2⟩, ⟨d0, d1, d2⟩, cb⟩ := hSw
        go_simp
      try simp only [Act.put, List.setIfInBounds_toArray, List.set_cons_zero, List.set_cons_succ]
      refine wpAnyH_take (i := 29) (oi := ⟨some _, _, _, _, _, _⟩) (v := (.pointer (some ⟨g, o + j * 11 + 2, none⟩))) rfl (by kernel_rfl) (by kernel_rfl) (by kernel_rfl) (fun _ _ _ h => h) (Or.inl ⟨by rfl, ?_⟩) ht ?_
      · intro W9 hSw
        obtain ⟨⟨c0, c1, c2⟩, ⟨d0, d1, d2⟩, cb⟩ := hSw
        go_simp
      try simp only [Act.put, List.setIfInBounds_toArray, List.set_cons_zero, List.set_cons_succ]
      refine wpAnyH_take (i := 30) (oi := ⟨some _, _, _, _, _, _⟩) (v := (.slice F1 nf fe1)) rfl (by kernel_rfl) (by kernel_rfl) (by kernel_rfl) (fun _ _ _ h => h) (Or.inl ⟨by rfl, ?_⟩) ht ?_
      · intro W9 hSw
        obtain ⟨⟨c0, c1, c2⟩, ⟨d0, d1, d2⟩, cb⟩ := hSw
        go_simp
      try simp only [Act.put, List.setIfInBounds_toArray, List.set_cons_zero, List.set_cons_succ]
      refine wpAnyH_take (i := 31) (oi := ⟨some _, _, _, _, _, _⟩) (v := (.slice (some ⟨g', o', none⟩) l.length d)) rfl (by kernel_rfl) (by kernel_rfl) (by kernel_rfl) (fun _ _ _ h => h) (Or.inl ⟨by rfl, ?_⟩) ht ?_
      · intro W9 hSw
        obtain ⟨⟨c0, c1, c2⟩, ⟨d0, d1, d2⟩, cb⟩ := hSw
        go_simp
      try simp only [Act.put, List.setIfInBounds_toArray, List.set_cons_zero, List.set_cons_succ]
      refine wpAnyH_take (i := 32) (oi := ⟨some _, _, _, _, _, _⟩) (v := (.int .i64 j)) rfl (by kernel_rfl) (by kernel_rfl) (by kernel_rfl) (fun _ _ _ h => h) (Or.inl ⟨by rfl, ?_⟩) ht ?_
      · intro W9 hSw
        obtain ⟨⟨c0, c1, c2⟩, ⟨d0, d1, d2⟩, cb⟩ := hSw
        go_simp
      try simp only [Act.put, List.setIfInBounds_toArray, List.set_cons_zero, List.set_cons_succ]
      refine wpAnyH_take (i := 33) (oi := ⟨some _, _, _, _, _, _⟩) (v := (.pointer (some ⟨g', o' + j * 11, none⟩))) rfl (by kernel_rfl) (by kernel_rfl) (by kernel_rfl) (fun _ _ _ h => h) (Or.inl ⟨by rfl, ?_⟩) ht ?_
      · intro W9 hSw
        obtain ⟨⟨c0, c1, c2⟩, ⟨d0, d1, d2⟩, cb⟩ := hSw
        go_simp
      try simp only [Act.put, List.setIfInBounds_toArray, List.set_cons_zero, List.set_cons_succ]
      refine wpAnyH_take (i := 34) (oi := ⟨some _, _, _, _, _, _⟩) (v := (.pointer (some ⟨g', o' + j * 11 + 2, none⟩))) rfl (by kernel_rfl) (by kernel_rfl) (by kernel_rfl) (fun _ _ _ h => h) (Or.inl ⟨by rfl, ?_⟩) ht ?_
      · intro W9 hSw
        obtain ⟨⟨c0, c1, c2⟩, ⟨d0, d1, d2⟩, cb⟩ := hSw
        go_simp
      try simp only [Act.put, List.setIfInBounds_toArray, List.set_cons_zero, List.set_cons_succ]
      refine wpAnyH_take (i := 35) (oi := ⟨some _, _, _, _, _, _⟩) (v := (.slice F2 nf fe2)) rfl (by kernel_rfl) (by kernel_rfl) (by kernel_rfl) (fun _ _ _ h => h) (Or.inl ⟨by rfl, ?_⟩) ht ?_
      · intro W9 hSw
        obtain ⟨⟨c0, c1, c2⟩, ⟨d0, d1, d2⟩, cb⟩ := hSw
        go_simp
      try simp only [Act.put, List.setIfInBounds_toArray, List.set_cons_zero, List.set_cons_succ]
      refine wpAnyH_ready (rs := [36]) (by kernel_rfl) (by simp) ?_
      refine AllReadyH.cons (o := ⟨some _, _, _, _, _, _⟩) rfl (fun K hK => ?_) AllReadyH.nil
      go_simp
      refine (HN2.out _ ht.below).mono ?_
      rintro e66 w66 ⟨rfl, hb66⟩
      have hs : SameHeld g (o + j * 11) g' (o' + j * 11) (.int .i64 q) (.slice P1 np pe1) (.slice F1 nf fe1) (.int .i64 q) (.slice P2 np pe2) (.slice F2 nf fe2) wr w66 := SameHeld.on ht hb66
      clear hb66 ht
      go_wp2_with fail
      refine hK.out _ _ hs (fun ht => ?_)
      clear hK K hs
      try simp only [Act.put, List.setIfInBounds_toArray, List.set_cons_zero, List.set_cons_succ]
      refine wpAnyH_take (i := 37) (oi := ⟨some _, _, _, _, _, _⟩) (v := (.bool false)) rfl (by kernel_rfl) (by kernel_rfl) (by kernel_rfl) (fun _ _ _ h => h) (Or.inl ⟨by rfl, ?_⟩) ht ?_
      · intro W9 hSw
        obtain ⟨⟨c0, c1, c2⟩, ⟨d0, d1, d2⟩, cb⟩ := hSw
        go_simp
      try simp only [Act.put, List.setIfInBounds_toArray, List.set_cons_zero, List.set_cons_succ]
      refine wpAnyH_take (i := 38) (oi := ⟨some _, _, _, _, _, _⟩) (v := (.bool false)) rfl (by kernel_rfl) (by kernel_rfl) (by kernel_rfl) (fun _ _ _ h => h) (Or.inl ⟨by rfl, ?_⟩) ht ?_
      · intro W9 hSw
        obtain ⟨⟨c0, c1, c2⟩, ⟨d0, d1, d2⟩, cb⟩ := hSw
        go_simp
      try simp only [Act.put, List.setIfInBounds_toArray, List.set_cons_zero, List.set_cons_succ]
      refine wpAnyH_take (i := 39) (oi := ⟨some _, _, _, _, _, _⟩) (v := (.bool false)) rfl (by kernel_rfl) (by kernel_rfl) (by kernel_rfl) (fun _ _ _ h => h) (Or.inl ⟨by rfl, ?_⟩) ht ?_
      · intro W9 hSw
        obtain ⟨⟨c0, c1, c2⟩, ⟨d0, d1, d2⟩, cb⟩ := hSw
        go_simp
      try simp only [Act.put, List.setIfInBounds_toArray, List.set_cons_zero, List.set_cons_succ]
      refine wpAnyH_take (i := 40) (oi := ⟨some _, _, _, _, _, _⟩) (v := (.bool true)) rfl (by kernel_rfl) (by kernel_rfl) (by kernel_rfl) (fun _ _ _ h => h) (Or.inl ⟨by rfl, ?_⟩) ht ?_
      · intro W9 hSw
        obtain ⟨⟨c0, c1, c2⟩, ⟨d0, d1, d2⟩, cb⟩ := hSw
        go_simp
      try simp only [Act.put, List.setIfInBounds_toArray, List.set_cons_zero, List.set_cons_succ]
      refine wpAnyH_take (i := 41) (oi := ⟨some _, _, _, _, _, _⟩) (v := (.bool false)) rfl (by kernel_rfl) (by kernel_rfl) (by kernel_rfl) (fun _ _ _ h => h) (Or.inl ⟨by rfl, ?_⟩) ht ?_
      · intro W9 hSw
        obtain ⟨⟨c0, c1, c2⟩, ⟨d0, d1, d2⟩, cb⟩ := hSw
        go_simp
      try simp only [Act.put, List.setIfInBounds_toArray, List.set_cons_zero, List.set_cons_succ]
      refine wpAnyH_take (i := 42) (oi := ⟨some _, _, _, _, _, _⟩) (v := (.bool false)) rfl (by kernel_rfl) (by kernel_rfl) (by kernel_rfl) (fun _ _ _ h => h) (Or.inl ⟨by rfl, ?_⟩) ht ?_
      · intro W9 hSw
        obtain ⟨⟨c0, c1, c2⟩, ⟨d0, d1, d2⟩, cb⟩ := hSw
        go_simp
      try simp only [Act.put, List.setIfInBounds_toArray, List.set_cons_zero, List.set_cons_succ]
      refine wpAnyH_done (by kernel_rfl) ?_ _
      -- END 7
      have hbl := ht.below
      clear ht
      go_wp2_with fail
      go_roundw
      case rel => exact ⟨j + 1, by omega, by go_num, HW.out.trans (hbl.mono HW.out.size)⟩
      case measure => simp [intOf]; omega
    · obtain rfl : j = l.length := by omega
      go_wp2_with fail
      go_ret
      exact ⟨rfl, HW.out⟩

end Go.Proofs.YtkhplaknogalgaaDoor

/- The laws of layer 8 (patch): up. -/
namespace Go.Proofs.YtkhplaknogalgaaDoor.Oq
open Js Pt

def exV : Vl := .mk 4 false Nm.Num.zero [] [.mk 5 false Nm.Num.zero [] [] [([111, 112], .mk 3 false Nm.Num.zero [114, 101, 109, 111, 118, 101] [] []), ([112, 97, 116, 104], .mk 3 false Nm.Num.zero [47, 97] [] [])]] []
abbrev exO : Opn := ⟨2, [[97]], [], Ps.mkN⟩
theorem ex_parse : Ps.parse [91, 123, 34, 111, 112, 34, 58, 34, 114, 101, 109, 111, 118, 101, 34, 44, 34, 112, 97, 116, 104, 34, 58, 34, 47, 97, 34, 125, 93] = .ok exV [] := by kernel_rfl
theorem ex_read : Oq.read exV = .ok [exO] := by kernel_rfl
theorem ex_none : Oq.read Ps.mkN = .bad 1 0 := by kernel_rfl
theorem fit_parse {s : List UInt8} {v : Vl} {u : List UInt8} (h : Ps.parse s = .ok v u) (hs : s.length ≤ 100000) : Fit v := by
  have ht := Ps.parse_told s
  rw [h] at ht
  have h1 := ht.1.2
  have h2 := ht.2
  exact ⟨Ed.neat_may v ht.1.1, by omega, slim_mono (by omega) v (Ps.parse_slim h)⟩
theorem fit_fine {v : Vl} (h : Fine v) : Fit v := ⟨Ed.neat_may v h.1, by have := h.2.1; omega, slim_mono (by omega) v h.2.2.2.2⟩
theorem fit_null : Fit Ps.mkN := ⟨by kernel_rfl, by decide, by simp [Vl.slim, slimL, slimM, Nm.Num.zero]⟩

end Go.Proofs.YtkhplaknogalgaaDoor.Oq
namespace Go.Proofs.YtkhplaknogalgaaDoor
open Go.RowKit Pt Js Oq

theorem le_whole (w : World) : Cl.le w.cell? (w.on fun b => b < w.heap.size) := fun _ _ hp => on_some.2 ⟨World.block_lt_of_cell? w _ hp, hp⟩
/-- What each Read tells, of a value anywhere. -/
def ReadF (r : Oq.Rd) (w : World) (e : Ending) (w' : World) : Prop :=
  Below w.heap.size w w' ∧ ((∃ (l : List Opn) (A : Option Addr) (cp : Nat), r = .ok l ∧ e = .returned (.tuple #[.slice A l.length cp, .nilIface]) ∧ SlO w'.cell? A l ∧ l.length ≤ cp ∧ cp ≤ maxLen) ∨
    (∃ (c i b : Nat), r = .bad c i ∧ e = .returned (.tuple #[.slice none 0 0, spotV b]) ∧ SpotAt w' b i c))
def RefReadF (r : Oq.Rd) (w : World) (e : Ending) (w' : World) : Prop :=
  Below w.heap.size w w' ∧ ((∃ (l : List Opn) (A : Option Addr) (cp : Nat), r = .ok l ∧ e = .returned (.tuple #[.slice A l.length cp, .int .i64 0, .int .i64 0]) ∧ SlO w'.cell? A l ∧ l.length ≤ cp ∧ cp ≤ maxLen) ∨
    (∃ (c i : Nat), r = .bad c i ∧ e = .returned (.tuple #[.slice none 0 0, .int .i64 c, .int .i64 i])))
theorem readF_any (v : Vl) (x : Value) (w : World) (hT : MaxT w) (hv : Fit v) (hx : v.In w.cell? x) : Calls Tryd.prog 7 #[x] w (ReadF (Oq.read v) w) := by
  refine (read8_any (fun b => b < w.heap.size) v x w hT (fun _ h => h) hv (In.keep (le_whole w) _ _ hx)).mono ?_
  rintro e w' ⟨hb, ⟨l, A, cp, h1, h2, h3, h4, h5⟩ | h⟩
  · exact ⟨hb, .inl ⟨l, A, cp, h1, h2, h3.keep (on_all _ _), h4, h5⟩⟩
  · exact ⟨hb, .inr h⟩
theorem refReadF_any (v : Vl) (x : Value) (w : World) (hv : Fit v) (hx : v.In w.cell? x) : Calls Tryd.prog 8 #[x] w (RefReadF (Oq.read v) w) := by
  refine (refRead8_any (fun b => b < w.heap.size) v x w (fun _ h => h) hv (In.keep (le_whole w) _ _ hx)).mono ?_
  rintro e w' ⟨hb, ⟨l, A, cp, h1, h2, h3, h4, h5⟩ | h⟩
  · exact ⟨hb, .inl ⟨l, A, cp, h1, h2, h3.keep (on_all _ _), h4, h5⟩⟩
  · exact ⟨hb, .inr h⟩
theorem ReadF.ok {r : Oq.Rd} {l : List Opn} {w w' : World} {e : Ending} (h : ReadF r w e w') (hr : r = .ok l) :
    ∃ (A : Option Addr) (cp : Nat), e = .returned (.tuple #[.slice A l.length cp, .nilIface]) ∧ SlO w'.cell? A l ∧ l.length ≤ cp ∧ cp ≤ maxLen ∧ Below w.heap.size w w' := by
  obtain ⟨hb, ⟨l', A, cp, h1, h2, h3, h4, h5⟩ | ⟨c, i, b, h1, _⟩⟩ := h
  · rw [hr] at h1; injection h1 with h1; subst h1
    exact ⟨A, cp, h2, h3, h4, h5, hb⟩
  · rw [hr] at h1; cases h1
theorem ReadF.bad {r : Oq.Rd} {c i : Nat} {w w' : World} {e : Ending} (h : ReadF r w e w') (hr : r = .bad c i) :
    ∃ b : Nat, e = .returned (.tuple #[.slice none 0 0, spotV b]) ∧ SpotAt w' b i c ∧ Below w.heap.size w w' := by
  obtain ⟨hb, ⟨l', A, cp, h1, _⟩ | ⟨c', i', b, h1, h2, h3⟩⟩ := h
  · rw [hr] at h1; cases h1
  · rw [hr] at h1; injection h1 with h1 h4; subst h1 h4
    exact ⟨b, h2, h3, hb⟩

set_option linter.unusedVariables false in
set_option linter.unusedSimpArgs false in
set_option maxRecDepth 100000 in
set_option maxHeartbeats 2000000 in
theorem up8_any (w : World) (hT : MaxT w) : Calls Tryd.prog 5 #[] w fun e w' => e = .returned (.bool true) ∧ Below w.heap.size w w' := by
  have HT := Lib.hid hT
  have HP1 := Lib.hid (refParse_any ⟨#[91, 123, 34, 111, 112, 34, 58, 34, 114, 101, 109, 111, 118, 101, 34, 44, 34, 112, 97, 116, 104, 34, 58, 34, 47, 97, 34, 125, 93]⟩ (by decide) w)
  clear hT
  go_enter Tryd.func5, Tryd.ntmps5
  go_wp2_with fail
  refine HP1.out.mono ?_
  rintro e w1 ⟨v, x, c, p, rfl, hx, hb1, hr⟩
  rw [show (⟨#[91, 123, 34, 111, 112, 34, 58, 34, 114, 101, 109, 111, 118, 101, 34, 44, 34, 112, 97, 116, 104, 34, 58, 34, 47, 97, 34, 125, 93]⟩ : ByteArray).data.toList = [91, 123, 34, 111, 112, 34, 58, 34, 114, 101, 109, 111, 118, 101, 34, 44, 34, 112, 97, 116, 104, 34, 58, 34, 47, 97, 34, 125, 93] from rfl, Oq.ex_parse] at hr
  obtain ⟨rfl, rfl, rfl⟩ := hr
  obtain ⟨k_1, k_2, k_3, k_4, k_5, k_6, k_7, k_8, k_9, k_a, k_b, k_c, rfl⟩ := In.cells hx
  have hx := In.keep (le_on w1 (w.heap.size ≤ ·)) _ _ hx
  have HBA := Lib.hid (hb1.alloc hb1.size (.cells #[.int .i64 k_1, .bool k_2, .bool k_3, .string ⟨k_4.toArray⟩, .int .i64 k_5, .string ⟨k_6.toArray⟩, .slice k_7 k_8 k_9, .slice k_a k_b k_c] 28))
  have HXA := Lib.hid (In.keep (le_alloc w1 (.cells #[.int .i64 k_1, .bool k_2, .bool k_3, .string ⟨k_4.toArray⟩, .int .i64 k_5, .string ⟨k_6.toArray⟩, .slice k_7 k_8 k_9, .slice k_a k_b k_c] 28)) _ _ hx)
  have HKA := Lib.hid (Blk.new w1 28 #[.int .i64 k_1, .bool k_2, .bool k_3, .string ⟨k_4.toArray⟩, .int .i64 k_5, .string ⟨k_6.toArray⟩, .slice k_7 k_8 k_9, .slice k_a k_b k_c])
  clear hx hb1 HP1
  go_upto_region 2 with (fail)
  generalize w1.alloc (.cells #[.int .i64 k_1, .bool k_2, .bool k_3, .string ⟨k_4.toArray⟩, .int .i64 k_5, .string ⟨k_6.toArray⟩, .slice k_7 k_8 k_9, .slice k_a k_b k_c] 28) = wa at *
  generalize w1.heap.size = g1 at *
  obtain ⟨a0, a1, a2, a3, a4, a5, a6, a7⟩ := HKA.out.eight
  have HR1 := Lib.hid (readF_any _ _ wa (HT.out.on HBA.out) (Oq.fit_parse Oq.ex_parse (by decide)) HXA.out)
  go_wp2_with fail
  refine HR1.out.mono ?_
  intro e2 w2 h2
  obtain ⟨A, cp, rfl, hs, hcp, hcm, hb2⟩ := h2.ok Oq.ex_read
  have HS2 := Lib.hid hs
  have HB2 := Lib.hid (HBA.out.trans (hb2.mono HBA.out.size))
  clear h2 hs hb2 HBA HXA HKA HR1 a0 a1 a2 a3 a4 a5 a6 a7
  have HR2 := Lib.hid (readF_any Ps.mkN (.agg zeroC) w2 (HT.out.on HB2.out) Oq.fit_null (leaf_in _ 0 false Nm.Num.zero []))
  go_wp2_with fail
  refine HR2.out.mono ?_
  intro e3 w3 h3
  obtain ⟨b, rfl, hsp, hb3⟩ := h3.bad Oq.ex_none
  have HS3 := Lib.hid (HS2.out.keep (le_below hb3))
  have HB3 := Lib.hid (HB2.out.trans (hb3.mono HB2.out.size))
  have HSP := Lib.hid hsp
  clear h3 hsp hb3 HS2 HB2 HR2
  go_wp2_with fail
  refine (spot_at b 0 1 w3 HSP.out).mono ?_
  rintro e4 w4 ⟨rfl, hb4⟩
  have HS4 := Lib.hid (HS3.out.keep (le_below hb4))
  have HB4 := Lib.hid (HB3.out.trans (hb4.mono HB3.out.size))
  clear hb4 HS3 HB3 HSP
  obtain ⟨g, off, y, rfl, hy, hc⟩ := HS4.out 0 _ rfl
  obtain ⟨P1, pe1, F1, fe1, y_1, y_2, y_3, y_4, y_5, y_6, y_7, y_8, y_9, y_a, y_b, y_c, rfl, hP1, hpe1, hpm1, _, _, _, _⟩ := OIn.form hy
  rw [Nat.zero_mul, Nat.add_zero] at hc
  obtain ⟨c0, c1, c2, cV⟩ := hc.op
  have hgl := World.block_lt_of_cell? _ _ c0
  have hba := (Below.refl w4.heap.size w4).alloc (Nat.le_refl _) (.cells #[.string ⟨#[97]⟩] 9)
  have HNM := names_any [[97]] [[97]] P1 (some ⟨w4.heap.size, 0, none⟩) pe1 1 (w4.alloc (.cells #[.string ⟨#[97]⟩] 9)) (hP1.keep (le_below hba))
    (strs_at (l := [[97]]) (Blk.new w4 9 #[.string ⟨#[97]⟩])) hpe1 hpm1 (Nat.le_refl _) (by unfold maxLen; omega)
  rw [alike_eq rfl] at HNM
  have HNM2 := Lib.hid HNM
  have HB5 := Lib.hid (HB4.out.trans (hba.mono HB4.out.size))
  have hlen : ([Oq.exO] : List Opn).length = 1 := rfl
  clear HNM hba hy hc cV hP1
  go_wp2_with fail
  refine HNM2.out.mono ?_
  rintro e6 w6 ⟨rfl, hb6⟩
  have HB6 := Lib.hid (HB5.out.trans (hb6.mono HB5.out.size))
  clear hb6
  go_wp2_with fail
  go_ret
  exact ⟨rfl, HB6.out⟩

end Go.Proofs.YtkhplaknogalgaaDoor

/- The laws of layer 8 (patch): PatchTells. -/
namespace Go.Proofs.YtkhplaknogalgaaDoor
open Go.RowKit Pt Js Oq

/-- An error, and what Spot tells of it. -/
def Spots8 (w : World) (ev : Value) (k a : Int) : Prop := (ev = .nilIface ∧ k = 0 ∧ a = 0) ∨ ∃ b, ev = spotV b ∧ SpotAt w b a k
theorem spots8_any {w : World} {ev : Value} {k a : Int} (h : Spots8 w ev k a) : Calls Tryd.prog 9 #[ev] w fun e w' => e = .returned (.tuple #[.int .i64 k, .int .i64 a]) ∧ Below w.heap.size w w' := by
  rcases h with ⟨rfl, rfl, rfl⟩ | ⟨b, rfl, h⟩
  · refine (spot_nil w).mono ?_
    rintro e w' ⟨rfl, rfl⟩
    exact ⟨rfl, Below.refl _ _⟩
  · exact spot_at b a k w h
theorem Spots8.on {w w' : World} {ev : Value} {k a : Int} (h : Spots8 w ev k a) (hb : Below w.heap.size w w') : Spots8 w' ev k a := by
  rcases h with h | ⟨b, h1, h2, h3⟩
  · exact .inl h
  · exact .inr ⟨b, h1, le_below hb _ _ h2, le_below hb _ _ h3⟩
/-- What both Reads tell of one value. -/
def Told8 (r : Oq.Rd) (l : List Opn) (k a : Int) : Prop := (r = .ok l ∧ k = 0 ∧ a = 0) ∨ ∃ c i : Nat, r = .bad c i ∧ k = c ∧ a = i ∧ l = []
theorem read_parts {r : Oq.Rd} {w w' : World} {e : Ending} (h : ReadF r w e w') :
    ∃ (l : List Opn) (A : Option Addr) (cp : Nat) (ev : Value) (k a : Int), e = .returned (.tuple #[.slice A l.length cp, ev]) ∧ Told8 r l k a ∧ Spots8 w' ev k a ∧ SlO w'.cell? A l ∧ l.length ≤ cp ∧ cp ≤ maxLen ∧ Below w.heap.size w w' := by
  obtain ⟨hb, ⟨l, A, cp, h1, h2, h3, h4, h5⟩ | ⟨c, i, b, h1, h2, h3⟩⟩ := h
  · exact ⟨l, A, cp, .nilIface, 0, 0, h2, .inl ⟨h1, rfl, rfl⟩, .inl ⟨rfl, rfl, rfl⟩, h3, h4, h5, hb⟩
  · exact ⟨[], none, 0, spotV b, c, i, h2, .inr ⟨c, i, h1, rfl, rfl, rfl⟩, .inr ⟨b, rfl, h3⟩, slO_nil _ _, Nat.le_refl _, Nat.zero_le _, hb⟩
theorem ref_parts {r : Oq.Rd} {l : List Opn} {k a : Int} {w w' : World} {e : Ending} (ht : Told8 r l k a) (h : RefReadF r w e w') :
    ∃ (A : Option Addr) (cp : Nat), e = .returned (.tuple #[.slice A l.length cp, .int .i64 k, .int .i64 a]) ∧ SlO w'.cell? A l ∧ l.length ≤ cp ∧ cp ≤ maxLen ∧ Below w.heap.size w w' := by
  obtain ⟨hb, h⟩ := h
  rcases ht with ⟨hr, rfl, rfl⟩ | ⟨c, i, hr, rfl, rfl, rfl⟩
  · rcases h with ⟨l', A, cp, h1, h2, h3, h4, h5⟩ | ⟨c, i, h1, _⟩
    · rw [hr] at h1; injection h1 with h1; subst h1
      exact ⟨A, cp, h2, h3, h4, h5, hb⟩
    · rw [hr] at h1; cases h1
  · rcases h with ⟨l', A, cp, h1, _⟩ | ⟨c', i', h1, h2⟩
    · rw [hr] at h1; cases h1
    · rw [hr] at h1; injection h1 with h1 h3; subst h1 h3
      exact ⟨none, 0, h2, slO_nil _ _, Nat.le_refl _, Nat.zero_le _, hb⟩

set_option linter.unusedVariables false in
set_option linter.unusedSimpArgs false in
set_option maxRecDepth 100000 in
set_option maxHeartbeats 4000000 in
theorem patchTells_any (s : ByteArray) (w : World) (hT : MaxT w) (hs : s.size ≤ 1000000000000000000) :
    Calls Tryd.prog 3 #[.string s] w fun e w' => e = .returned (.bool true) ∧ Below w.heap.size w w' := by
  have HU := Lib.hid (up8_any w hT)
  have HT := Lib.hid hT
  clear hT
  go_enter Tryd.func3, Tryd.ntmps3
  go_wp2_with fail
  refine HU.out.mono ?_
  rintro e w0 ⟨rfl, hb0⟩
  have HB0 := Lib.hid hb0
  clear hb0 HU
  by_cases hbig : 6000 < s.size
  · have t1 : decide ((6000 : Int) < (s.size : Int)) = true := by simp; omega
    go_wp2_with fail
    go_ret
    exact ⟨rfl, HB0.out⟩
  have t1 : decide ((6000 : Int) < (s.size : Int)) = false := by simp; omega
  have HP := Lib.hid (refParse_any s (by omega) w0)
  go_wp2_with fail
  refine HP.out.mono ?_
  rintro e w1 ⟨v, x, c, p, rfl, hx, hb1, hr⟩
  have hc : (c ≠ 0) ∨ (c = 0 ∧ ∃ u, Ps.parse s.data.toList = .ok v u) := by
    cases hq : Ps.parse s.data.toList with
    | ok v0 u =>
      rw [hq] at hr
      exact .inr ⟨hr.2.1, u, by rw [hr.1]⟩
    | bad c0 l =>
      rw [hq] at hr
      have := (Ps.parse_told s.data.toList)
      rw [hq] at this
      left
      rw [hr.2.1]
      have h1 := this.1
      omega
  obtain ⟨k_1, k_2, k_3, k_4, k_5, k_6, k_7, k_8, k_9, k_a, k_b, k_c, rfl⟩ := In.cells hx
  have hx := In.keep (le_on w1 (w0.heap.size ≤ ·)) _ _ hx
  have hba := hb1.alloc hb1.size (.cells #[.int .i64 k_1, .bool k_2, .bool k_3, .string ⟨k_4.toArray⟩, .int .i64 k_5, .string ⟨k_6.toArray⟩, .slice k_7 k_8 k_9, .slice k_a k_b k_c] 28)
  have HBA := Lib.hid (HB0.out.trans (hba.mono HB0.out.size))
  have HXA := Lib.hid (In.keep (le_alloc w1 (.cells #[.int .i64 k_1, .bool k_2, .bool k_3, .string ⟨k_4.toArray⟩, .int .i64 k_5, .string ⟨k_6.toArray⟩, .slice k_7 k_8 k_9, .slice k_a k_b k_c] 28)) _ _ hx)
  have HKA := Lib.hid (Blk.new w1 28 #[.int .i64 k_1, .bool k_2, .bool k_3, .string ⟨k_4.toArray⟩, .int .i64 k_5, .string ⟨k_6.toArray⟩, .slice k_7 k_8 k_9, .slice k_a k_b k_c])
  clear hx hb1 hba HP hr HB0
  go_upto_region 5 with (fail)
  generalize w1.alloc (.cells #[.int .i64 k_1, .bool k_2, .bool k_3, .string ⟨k_4.toArray⟩, .int .i64 k_5, .string ⟨k_6.toArray⟩, .slice k_7 k_8 k_9, .slice k_a k_b k_c] 28) = wa at *
  generalize w1.heap.size = g1 at *
  rcases hc with hc | ⟨rfl, u, hu⟩
  · have t2 : (c != 0) = true := by simpa using hc
    clear hc
    go_wp2_with fail
    go_ret
    exact ⟨rfl, HBA.out⟩
  have HF := Lib.hid (Oq.fit_parse hu (by rw [← Lib.size_eq]; omega))
  clear hu
  have HR1 := Lib.hid (readF_any _ _ wa (HT.out.on HBA.out) HF.out HXA.out)
  have HR2 := Lib.hid (fun W (h : Below wa.heap.size wa W) => refReadF_any _ _ W HF.out (In.keep (le_below h) _ _ HXA.out))
  generalize Oq.read v = r at *
  obtain ⟨a0, a1, a2, a3, a4, a5, a6, a7⟩ := HKA.out.eight
  go_wp2_with fail
  refine HR1.out.mono ?_
  intro e2 w2 h2
  obtain ⟨l, A, cp, ev, k, a, rfl, htl, hsp, hs2, hc1, hc2, hb2⟩ := read_parts h2
  have HTL := Lib.hid htl
  have HB2 := Lib.hid (HBA.out.trans (hb2.mono HBA.out.size))
  have HSP := Lib.hid hsp
  have HS2 := Lib.hid hs2
  have HK2 := Lib.hid (HKA.out.on hb2)
  have HR22 := Lib.hid (HR2.out _ hb2)
  clear h2 htl hsp hs2 hb2 HBA HKA HR1 HR2 HXA a0 a1 a2 a3 a4 a5 a6 a7
  obtain ⟨a0, a1, a2, a3, a4, a5, a6, a7⟩ := HK2.out.eight
  go_wp2_with fail
  refine HR22.out.mono ?_
  intro e3 w3 h3
  obtain ⟨A3, cp3, rfl, hs3, hc3, hc4, hb3⟩ := ref_parts HTL.out h3
  have HB3 := Lib.hid (HB2.out.trans (hb3.mono HB2.out.size))
  have HSP3 := Lib.hid (HSP.out.on hb3)
  have HS3 := Lib.hid (HS2.out.keep (le_below hb3))
  have HS3' := Lib.hid hs3
  clear h3 hs3 hb3 HB2 HSP HS2 HK2 HR22 HTL a0 a1 a2 a3 a4 a5 a6 a7
  go_wp2_with fail
  refine (spots8_any HSP3.out).mono ?_
  rintro e4 w4 ⟨rfl, hb4⟩
  have HB4 := Lib.hid (HB3.out.trans (hb4.mono HB3.out.size))
  have HSM := Lib.hid (same8_any l A A3 cp cp3 w4 (HS3.out.keep (le_below hb4)) (HS3'.out.keep (le_below hb4)) hc1 hc2 hc3 hc4)
  have hkk : (k == k) = true := by simp
  have haa : (a == a) = true := by simp
  clear hb4 HB3 HSP3 HS3 HS3'
  go_wp2_with fail
  refine HSM.out.mono ?_
  rintro e5 w5 ⟨rfl, hb5⟩
  have HB5 := Lib.hid (HB4.out.trans (hb5.mono HB4.out.size))
  clear hb5
  go_wp2_with fail
  go_ret
  exact ⟨rfl, HB5.out⟩

end Go.Proofs.YtkhplaknogalgaaDoor


