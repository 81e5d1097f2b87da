/- What the laws hand to layers 14 to 18: a schema's nodes, their references known; two lists of names side by side. -/
import Derived.Test.YtolkfgikomminaaGreatDoorEe
namespace Go.Proofs.YtolkfgikomminaaGreatDoor
open Go.RowKit Js Pt

noncomputable def Cm.schR (s : List UInt8) : List Cm.Node × Nat × Int := match Ps.parse s with
 | .bad c l => ([], c, (s.length : Int) - l)
 | .ok v _ => match Cm.compile v with
  | .bad c _ => ([], c, -1)
  | .ok a => (Cm.outL (Cm.link a), Cm.outC (Cm.link a), -1)
def SchP (s : List UInt8) (w : World) (e : Ending) (w' : World) : Prop :=
 ∃ (A : Option Addr) (cp : Nat), e = .returned (.tuple #[.slice A (Cm.schR s).1.length cp, .int .i64 (Cm.schR s).2.1, .int .i64 (Cm.schR s).2.2]) ∧ SlN w'.cell? A (Cm.schR s).1 ∧ (Cm.schR s).1.length ≤ cp ∧ cp ≤ maxLen ∧ Below w.heap.size w w'
theorem wide_of {s : List UInt8} {v : Vl} {u : List UInt8} (hs : s.length ≤ 1000000) (h : Ps.parse s = .ok v u) : Wide v := by
 have ht := Ps.parse_told s
 rw [h] at ht
 exact ⟨ht.1.1, by have := ht.2; omega, slim_mono (by omega) v (Ps.parse_slim h)⟩
theorem Cm.comp_code {v : Vl} {w : World} {e : Ending} {w' : World} (h : CompR (Cm.compile v) w e w') {c : Nat} {p : Cm.Names} (hc : Cm.compile v = .bad c p) : ¬ c = 0 := by
 obtain ⟨_, ⟨a, A, cp, h3, _⟩ | ⟨c1, p1, h3, h4, _⟩⟩ := h
 ·rw [hc] at h3; cases h3
 ·rw [hc] at h3; injection h3 with h3 _; subst h3; exact h4
theorem Cm.parse_code {s : List UInt8} {c l : Nat} (h : Ps.parse s = .bad c l) : 1 ≤ c := by
 have ht := Ps.parse_told s
 rw [h] at ht
 exact ht.1

set_option linter.unusedVariables false in
set_option linter.unusedSimpArgs false in
set_option maxRecDepth 100000 in
set_option maxHeartbeats 2000000 in
theorem refSchemaN_any (s : ByteArray) (w : World) (hs : s.size ≤ 1000000) : Calls Tryz.prog 12 #[.string s] w (SchP s.data.toList w) := by
 have HP := Lib.hid (refParse_any s (by omega) w)
 have HSZ := Lib.hid (show s.data.toList.length ≤ 1000000 by rw [← Lib.size_eq]; exact hs)
 have HSE := Lib.hid (Lib.size_eq s)
 go_enter Tryz.func12, Tryz.ntmps12
 go_wp2_with fail
 refine HP.out.mono ?_
 rintro e1 w1 ⟨v, x, c, p, rfl, hx0, hb1, hr⟩
 have hx := In.keep (on_all _ _) _ _ hx0
 obtain ⟨k_1, k_2, k_3, k_4, k_5, k_6, k_7, k_8, k_9, k_a, k_b, k_c, rfl⟩ := In.cells hx
 have hba := hb1.alloc hb1.size (.cells #[.int .i64 k_1, .bool k_2, .bool k_3, .string ⟨k_4.toArray⟩, .int .i64 k_5, .string ⟨k_6.toArray⟩, .slice k_7 k_8 k_9, .slice k_a k_b k_c] 31)
 have HB := Lib.hid hba
 have HX := Lib.hid (In.keep (le_alloc w1 (.cells #[.int .i64 k_1, .bool k_2, .bool k_3, .string ⟨k_4.toArray⟩, .int .i64 k_5, .string ⟨k_6.toArray⟩, .slice k_7 k_8 k_9, .slice k_a k_b k_c] 31)) _ _ hx)
 have HK := Lib.hid (Blk.new w1 31 #[.int .i64 k_1, .bool k_2, .bool k_3, .string ⟨k_4.toArray⟩, .int .i64 k_5, .string ⟨k_6.toArray⟩, .slice k_7 k_8 k_9, .slice k_a k_b k_c])
 have HR := Lib.hid hr
 clear hx hx0 hb1 hba HP hr
 go_upto_region 2 with (fail)
 generalize w1.alloc (.cells #[.int .i64 k_1, .bool k_2, .bool k_3, .string ⟨k_4.toArray⟩, .int .i64 k_5, .string ⟨k_6.toArray⟩, .slice k_7 k_8 k_9, .slice k_a k_b k_c] 31) = wa at *
 generalize w1.heap.size = g1 at *
 obtain ⟨a0, a1, a2, a3, a4, a5, a6, a7⟩ := HK.out.eight
 have hkl := HK.out.lt
 obtain ⟨pr, hpr⟩ : ∃ r, Ps.parse s.data.toList = r := ⟨_, rfl⟩
 have HPR := Lib.hid hpr
 rw [hpr] at HR
 clear hpr
 cases pr with
 | bad c0 l0 =>
  obtain ⟨hv, hc, hp⟩ := HR.out
  have hc0 : (c != 0) = true := by rw [bne_iff_ne, hc]; have := Cm.parse_code HPR.out; omega
  have HSR := Lib.hid (show Cm.schR s.data.toList = ([], c0, (s.data.toList.length : Int) - l0) by unfold Cm.schR; rw [HPR.out])
  have HCC := Lib.hid hc
  have HPP := Lib.hid hp
  clear hv hc hp HR
  go_wp2_with fail
  go_ret3
  refine ⟨none, 0, ?_, ?_⟩
  ·rw [HSR.out, HCC.out, HPP.out, HSE.out]; rfl
  ·rw [HSR.out]; exact ⟨fun i N h => by simp at h, Nat.le_refl _, by unfold maxLen; omega, HB.out⟩
 | ok v0 u0 =>
  obtain ⟨hv, hc, hp⟩ := HR.out
  subst hv hc hp
  have HW := Lib.hid (wide_of HSZ.out HPR.out)
  have HRC := Lib.hid (refCompile_any v _ wa HX.out HW.out.2.2 HW.out.2.1)
  clear HR
  go_wp2_with fail
  refine HRC.out.mono ?_
  intro e2 w2 h2
  have HR2 := Lib.hid h2
  obtain ⟨B1, cq1, rfl, hs2, hl2, hm2, hb2⟩ := h2.out
  have HB2 := Lib.hid (HB.out.trans (hb2.mono HB.out.size))
  have HS2 := Lib.hid hs2
  obtain ⟨r, hr⟩ : ∃ r, Cm.compile v = r := ⟨_, rfl⟩
  rw [hr] at HS2 hl2 ⊢
  have HRE := Lib.hid hr
  have HBD := Lib.hid (fun c0 p0 (e : r = .bad c0 p0) => Cm.comp_code HR2.out (hr.trans e))
  clear hs2 hb2 h2 hr HRC a0 a1 a2 a3 a4 a5 a6 a7 hkl HK HX HB HR2
  cases r with
  | bad c0 p0 =>
   have hc0 : (((Cm.outC (.bad c0 p0) : Nat) : Int) != 0) = true := by rw [bne_iff_ne]; have := HBD.out c0 p0 rfl; show ((c0 : Nat) : Int) ≠ 0; omega
   have HSR := Lib.hid (show Cm.schR s.data.toList = ([], c0, -1) by unfold Cm.schR; rw [HPR.out]; simp only; rw [HRE.out])
   go_wp2_with fail
   go_ret3
   refine ⟨none, 0, ?_, ?_⟩
   ·rw [HSR.out]; rfl
   ·rw [HSR.out]; exact ⟨fun i N h => by simp at h, Nat.le_refl _, by unfold maxLen; omega, HB2.out⟩
  | ok a =>
   have HGD := Lib.hid (Cm.good_of HW.out HRE.out)
   have HS3 := Lib.hid (show SlN w2.cell? B1 a from HS2.out)
   rw [show Cm.outL (.ok a) = a from rfl, show Cm.outC (.ok a) = 0 from rfl]
   change a.length ≤ cq1 at hl2
   have HSR := Lib.hid (show Cm.schR s.data.toList = (Cm.outL (Cm.link a), Cm.outC (Cm.link a), -1) by unfold Cm.schR; rw [HPR.out]; simp only; rw [HRE.out])
   have HRL := Lib.hid (refLink_any a B1 cq1 w2 HS3.out hl2 hm2 (by have := HGD.out.few; omega) HGD.out.inside HGD.out.keys HGD.out.paths)
   generalize Cm.link a = r at HRL HSR
   clear HS2 HBD HRE
   go_wp2_with fail
   refine HRL.out.mono ?_
   intro e4 w4 h4
   obtain ⟨B4, cq4, rfl, hs4, hl4, hm4, hb4⟩ := h4.out
   have HS4 := Lib.hid hs4
   have HB4 := Lib.hid (HB2.out.trans (hb4.mono HB2.out.size))
   clear hs4 hb4 h4 HRL
   go_wp2_with fail
   go_ret3
   refine ⟨B4, cq4, ?_, ?_⟩
   ·rw [HSR.out]; rfl
   ·rw [HSR.out]; exact ⟨HS4.out, hl4, hm4, HB4.out⟩

structure NdT (s : List UInt8) (v : Vl) (a L : List Cm.Node) : Prop where
 short : s.length ≤ 2000
 parsed : ∃ u, Ps.parse s = .ok v u
 wide : Wide v
 comp : Cm.compile v = .ok a
 link : Cm.link a = .ok L
 sch : Cm.schR s = (L, 0, -1)
def NodesP (s : List UInt8) (w : World) (e : Ending) (w' : World) : Prop :=
 Below w.heap.size w w' ∧ ((e = .returned (.tuple #[.slice none 0 0, .int .i64 0]) ∧ (2000 < s.length ∨ ¬ (Cm.schR s).2.1 = 0)) ∨ ∃ (v : Vl) (a L : List Cm.Node) (A : Option Addr) (cp : Nat), e = .returned (.tuple #[.slice A L.length cp, .int .i64 1]) ∧ NdT s v a L ∧ SlN w'.cell? A L ∧ L.length ≤ cp ∧ cp ≤ maxLen)
theorem Cm.link_code {a : List Cm.Node} {c : Nat} {p : Cm.Names} (h : Cm.link a = .bad c p) : ¬ c = 0 := by
 unfold Cm.link at h
 split at h
 ·rename_i c' p' hn
  injection h with h1 _
  subst h1
  have hk : ∀ (ks : List Cm.Key) (P : Cm.Names) {c : Nat} {p : Cm.Names}, Cm.linkKeys a P ks = .bad c p → c = 12 := by
   intro ks
   induction ks with
   | nil => intro P c p h; cases h
   | cons K r ih =>
    intro P c p h
    rw [Cm.linkKeys] at h
    cases h1 : Cm.linkKey a P K with
    | bad c1 p1 =>
     rw [h1] at h
     injection h with h2 _
     subst h2
     unfold Cm.linkKey at h1
     split at h1
     ·split at h1
      ·injection h1 with h1 _; exact h1.symm
      ·cases h1
     ·cases h1
    | ok K' =>
     rw [h1] at h
     simp only at h
     cases h2 : Cm.linkKeys a P r with
     | bad c2 p2 => rw [h2] at h; injection h with h3 _; subst h3; exact ih P h2
     | ok r' => rw [h2] at h; cases h
  have hns : ∀ (ns : List Cm.Node) {c : Nat} {p : Cm.Names}, Cm.linkNodes a ns = .bad c p → c = 12 := by
   intro ns
   induction ns with
   | nil => intro c p h; cases h
   | cons N r ih =>
    intro c p h
    rw [Cm.linkNodes] at h
    cases h1 : Cm.linkKeys a N.at_ N.keys with
    | bad c1 p1 => rw [h1] at h; injection h with h3 _; subst h3; exact hk _ _ h1
    | ok K' =>
     rw [h1] at h
     simp only at h
     cases h2 : Cm.linkNodes a r with
     | bad c2 p2 => rw [h2] at h; injection h with h3 _; subst h3; exact ih h2
     | ok r' => rw [h2] at h; cases h
  have := hns _ hn
  omega
 ·split at h
  ·injection h with h1 _; omega
  ·cases h
theorem Cm.kidsN_bad0 {nd : Nat → Cm.Names → Vl → Cm.Res (List Cm.Node)} (hnd : ∀ off P u c p, nd off P u = .bad c p → ¬ c = 0) {single : Bool} {under : Cm.Names} : ∀ {l : List Js.Mem} {off c : Nat} {p : Cm.Names}, Cm.kidsN nd single under off l = .bad c p → ¬ c = 0
 | [], off, c, p, h => by rw [Cm.kidsN] at h; cases h
 | (key, u) :: r, off, c, p, h => by
  rw [Cm.kidsN] at h
  cases h1 : nd off (if single = true then under else under ++ [key]) u with
  | bad c1 p1 => rw [h1] at h; injection h with h2 _; subst h2; exact hnd _ _ _ _ _ h1
  | ok a =>
   rw [h1] at h
   simp only at h
   cases h2 : Cm.kidsN nd single under (off + a.length) r with
   | bad c2 p2 => rw [h2] at h; injection h with h3 _; subst h3; exact Cm.kidsN_bad0 hnd h2
   | ok x => rw [h2] at h; cases h
theorem Cm.memsN_bad0 {nd : Nat → Cm.Names → Vl → Cm.Res (List Cm.Node)} (hnd : ∀ off P u c p, nd off P u = .bad c p → ¬ c = 0) {P : Cm.Names} : ∀ {m : List Js.Mem} {off c : Nat} {p : Cm.Names}, Cm.memsN nd P off m = .bad c p → ¬ c = 0
 | [], off, c, p, h => by rw [Cm.memsN] at h; cases h
 | (nm, w) :: r, off, c, p, h => by
  rw [Cm.memsN] at h
  split at h
  ·cases h1 : Cm.kidsN nd (Sh.single nm) (P ++ [nm]) off (Sh.kids nm w) with
   | bad c1 p1 => rw [h1] at h; injection h with h2 _; subst h2; exact Cm.kidsN_bad0 hnd h1
   | ok x =>
    obtain ⟨ks, a⟩ := x
    rw [h1] at h
    simp only at h
    cases h2 : Cm.memsN nd P (off + a.length) r with
    | bad c2 p2 => rw [h2] at h; injection h with h3 _; subst h3; exact Cm.memsN_bad0 hnd h2
    | ok x => rw [h2] at h; cases h
  ·rename_i hs
   injection h with h _
   subst h
   exact hs
theorem Cm.node_bad0 (f : Nat) : ∀ off P u c p, Cm.node f off P u = .bad c p → ¬ c = 0 := by
 induction f with
 | zero => intro off P u c p h; rw [Cm.node] at h; injection h with h _; omega
 | succ f ih =>
  intro off P u c p h
  obtain ⟨k, b, n, s, l, m⟩ := u
  rw [Cm.node] at h
  split at h
  ·injection h with h _; omega
  ·cases h1 : Cm.memsN (Cm.node f) P (off + 1) m with
   | bad c1 p1 => rw [h1] at h; injection h with h2 _; subst h2; exact Cm.memsN_bad0 ih h1
   | ok x => rw [h1] at h; cases h
theorem Cm.sch_cases (s : List UInt8) : ¬ (Cm.schR s).2.1 = 0 ∨ ∃ v u a L, Ps.parse s = .ok v u ∧ Cm.compile v = .ok a ∧ Cm.link a = .ok L ∧ Cm.schR s = (L, 0, -1) := by
 unfold Cm.schR
 cases hp : Ps.parse s with
 | bad c l => left; have := Cm.parse_code hp; simp only; omega
 | ok v u =>
  simp only
  cases hc : Cm.compile v with
  | bad c p =>
   left
   have h1 : ¬ c = 0 := by
    unfold Cm.compile at hc
    split at hc
    ·exact Cm.node_bad0 _ _ _ _ _ _ hc
    ·injection hc with hc _; omega
   exact h1
  | ok a =>
   simp only
   cases hl : Cm.link a with
   | bad c p => left; exact Cm.link_code hl
   | ok L => right; exact ⟨v, u, a, L, rfl, hc, hl, rfl⟩

set_option linter.unusedVariables false in
set_option linter.unusedSimpArgs false in
set_option maxRecDepth 100000 in
set_option maxHeartbeats 2000000 in
theorem lawNodes_any (s : ByteArray) (w : World) (hs : s.size ≤ 1000000000000000000) : Calls Tryz.prog 6 #[.string s] w (NodesP s.data.toList w) := by
 have HSE := Lib.hid (Lib.size_eq s)
 by_cases hl : 2000 < s.size
 ·have tl : decide ((2000 : Int) < (s.size : Int)) = true := decide_eq_true (by omega)
  have HLL := Lib.hid (show 2000 < s.data.toList.length by rw [← HSE.out]; exact hl)
  clear hl
  go_enter Tryz.func6, Tryz.ntmps6
  go_wp2_with fail
  go_ret2
  exact ⟨Below.refl _ _, .inl ⟨rfl, .inl HLL.out⟩⟩
 ·have tl : decide ((2000 : Int) < (s.size : Int)) = false := decide_eq_false (by omega)
  have HLL := Lib.hid (show s.data.toList.length ≤ 2000 by rw [← HSE.out]; omega)
  have HSC := Lib.hid (refSchemaN_any s w (by omega))
  clear hl
  go_enter Tryz.func6, Tryz.ntmps6
  go_wp2_with fail
  refine HSC.out.mono ?_
  rintro e1 w1 ⟨A, cp, rfl, hs1, hl1, hm1, hb1⟩
  have HB := Lib.hid hb1
  have HS := Lib.hid hs1
  have HCA := Lib.hid (Cm.sch_cases s.data.toList)
  clear hs1 hb1 HSC
  obtain ⟨R, hR⟩ : ∃ R, Cm.schR s.data.toList = R := ⟨_, rfl⟩
  rw [hR] at HS HCA hl1 ⊢
  have HRR := Lib.hid hR
  obtain ⟨L, c, pl⟩ := R
  simp only at HS HCA hl1 ⊢
  clear hR
  by_cases hc : c = 0
  ·have hcb : ((c : Int) != 0) = false := by simp [hc]
   have HND := Lib.hid (show ∃ v a, NdT s.data.toList v a L from by
    rcases HCA.out with h | ⟨v, u, a, L', h1, h2, h3, h4⟩
    ·exact absurd hc h
    ·injection h4 with h4 h5
     subst h4
     exact ⟨v, a, HLL.out, ⟨u, h1⟩, wide_of (by have := HLL.out; omega) h1, h2, h3, by rw [HRR.out, hc]; injection h5 with _ h6; rw [h6]⟩)
   clear hc HCA
   go_wp2_with fail
   go_ret2
   obtain ⟨v, a, hnd⟩ := HND.out
   exact ⟨HB.out, .inr ⟨v, a, L, A, cp, rfl, hnd, HS.out, hl1, hm1⟩⟩
  ·have hcb : ((c : Int) != 0) = true := by rw [bne_iff_ne]; omega
   have HCN := Lib.hid hc
   clear hc HCA
   go_wp2_with fail
   go_ret2
   exact ⟨HB.out, .inl ⟨rfl, .inr (by rw [HRR.out]; exact HCN.out)⟩⟩

set_option linter.unusedVariables false in
set_option linter.unusedSimpArgs false in
set_option maxRecDepth 100000 in
set_option maxHeartbeats 2000000 in
theorem lawNames_any (a b : List (List UInt8)) (A B : Option Addr) (cA cB : Nat) (w : World) (ha : Strs w.cell? A a) (hb : Strs w.cell? B b) (h1 : a.length ≤ cA) (h2 : cA ≤ maxLen) (h3 : b.length ≤ cB) (h4 : cB ≤ maxLen) :
  Calls Tryz.prog 8 #[.slice A a.length cA, .slice B b.length cB] w fun e w' => e = .returned (.int .i64 (if a = b then 1 else 0)) ∧ Below w.heap.size w w' := by
 have HA := Lib.hid ha
 have HBB := Lib.hid hb
 unfold maxLen at h2 h4
 clear ha hb
 by_cases hl : a.length = b.length
 ·have tl : ((a.length : Int) != (b.length : Int)) = false := by simp; omega
  have HL := Lib.hid hl
  clear hl
  go_enter Tryz.func8, Tryz.ntmps8
  go_wp2_with fail
  go_loopw [5] (fun i wr => ∃ j : Nat, j ≤ a.length ∧ i = .int .i64 j ∧ Below w.heap.size w wr ∧ a.take j = b.take j) (fun i _ => a.length - (intOf i).toNat)
  case atStart => exact ⟨0, by omega, rfl, Below.refl _ _, rfl⟩
  case round =>
   obtain ⟨j, hj, rfl, hbw, htk⟩ := hrel
   have HW := Lib.hid hbw
   have HTK := Lib.hid htk
   clear hbw htk
   by_cases hlt : j < a.length
   ·have hlt2 : j < b.length := by have := HL.out; omega
    obtain ⟨g, o, rfl, hc⟩ := HA.out j _ (List.getElem?_eq_getElem hlt)
    obtain ⟨g2, o2, rfl, hc2⟩ := HBB.out j _ (List.getElem?_eq_getElem hlt2)
    have e0 := (le_below HW.out) _ _ hc
    have d0 := (le_below HW.out) _ _ hc2
    have hgl := World.block_lt_of_cell? _ _ e0
    have hgl2 := World.block_lt_of_cell? _ _ d0
    have hjj : (j : Int) < (a.length : Int) := by omega
    have hjj2 : (j : Int) < (b.length : Int) := by omega
    have HNA := Lib.hid (List.take_succ_eq_append_getElem hlt)
    have HNB := Lib.hid (List.take_succ_eq_append_getElem hlt2)
    have HEQ := Lib.hid (fun (e : a = b) => (show a[j] = b[j] by subst e; rfl))
    obtain ⟨x, hx⟩ : ∃ x, a[j] = x := ⟨_, rfl⟩
    obtain ⟨y, hy⟩ : ∃ y, b[j] = y := ⟨_, rfl⟩
    rw [hx] at e0 HNA HEQ
    rw [hy] at d0 HNB HEQ
    clear hc hc2 hx hy
    by_cases hxy : x = y
    ·have tx : (x != y) = false := by simp [hxy]
     have tx2 : (x == y) = true := by simp [hxy]
     have HT2 := Lib.hid (show a.take (j + 1) = b.take (j + 1) by rw [HNA.out, HNB.out, HTK.out, hxy])
     clear hxy
     go_upto_region 6 with (fail)
     go_quiet (fail)
     go_wp2_with fail
     go_roundw
     case rel => exact ⟨j + 1, by omega, by go_num, below_drewN HW.out _, HT2.out⟩
     case measure => simp [intOf]; omega
    ·have tx : (x != y) = true := by rw [bne_iff_ne]; exact hxy
     have tx2 : (x == y) = false := by rw [beq_eq_false_iff_ne]; exact hxy
     have HN := Lib.hid (fun e => hxy (HEQ.out e))
     clear hxy
     go_upto_region 6 with (fail)
     go_quiet (fail)
     go_wp2_with fail
     go_ret
     exact ⟨by first | rfl | (rw [if_neg HN.out]; rfl), below_drewN HW.out _⟩
   ·obtain rfl : j = a.length := by omega
    have HE := Lib.hid (show a = b by have := HTK.out; rwa [List.take_length, HL.out, List.take_length] at this)
    go_wp2_with fail
    go_ret
    exact ⟨by first | rfl | (rw [if_pos HE.out]; rfl), HW.out⟩
 ·have tl : ((a.length : Int) != (b.length : Int)) = true := by rw [bne_iff_ne]; omega
  have HN := Lib.hid (show ¬ a = b from fun e => hl (by rw [e]))
  clear hl
  go_enter Tryz.func8, Tryz.ntmps8
  go_wp2_with fail
  go_ret
  exact ⟨by first | rfl | (rw [if_neg HN.out]; rfl), Below.refl _ _⟩

end Go.Proofs.YtolkfgikomminaaGreatDoor

