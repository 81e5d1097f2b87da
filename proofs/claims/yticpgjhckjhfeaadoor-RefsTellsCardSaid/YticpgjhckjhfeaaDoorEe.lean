/- The laws of layer 12 (refs), given what the program's Link is to do. -/
import Derived.Test.YticpgjhckjhfeaaDoorEc
import Derived.Test.YticpgjhckjhfeaaDoorDj
import Derived.Test.YticpgjhckjhfeaaDoorEg
namespace Go.Proofs.YticpgjhckjhfeaaDoor
open Go.RowKit Js Pt

/-- Nodes as layer 11 tells them. -/
structure Cm.Good12 (l : List Cm.Node) : Prop where
  inside : Cm.Inside l
  few : l.length ≤ 200
  apart : (l.map (·.at_)).Nodup
  keys : ∀ N ∈ l, N.keys.length ≤ 1000000
  paths : ∀ N ∈ l, (text N.at_).length ≤ 10000000000000
  kids : ∀ N ∈ l, ∀ K ∈ N.keys, K.kids.length ≤ 200
  strs : ∀ N ∈ l, ∀ K ∈ N.keys, (Sh.strOf K.v).length ≤ 1000000
theorem Cm.good_of {v : Vl} {a : List Cm.Node} (hw : Wide v) (h : Cm.compile v = .ok a) : Cm.Good12 a := by
  have hst := Cm.compile_stand hw.1 hw.2.1 h
  refine ⟨Cm.inside_of hw.1 hw.2.1 h, hst.2.2.2.1, hst.2.1, fun N hN => ?_, fun N hN => ?_, fun N hN K hK => Nat.le_trans (Cm.kids_few hst.2.2.2.2.1 hN hK) hst.2.2.2.1, fun N hN K hK => Cm.str_small (Cm.compile_slim h hw.2.2 hw.2.1 N hN K hK).1⟩
  · obtain ⟨x, hx, ho⟩ := hst.1 N hN
    have hsm := Cm.get_small (N := 1000000) (by omega) _ _ _ hw.2.2 hx
    obtain ⟨k, b, n, s, l, m⟩ := x
    have h3 := ho.2.2
    have h4 : m.length ≤ sizeM m := sizeM_len m
    have h5 := hsm.2.2
    have h6 := hw.2.1
    simp only [Vl.size] at h5
    omega
  · obtain ⟨x, hx, _⟩ := hst.1 N hN
    have hsm := Cm.get_small (N := 1000000) (by omega) _ _ _ hw.2.2 hx
    have h1 := text_len 1000000 _ hsm.2.1
    have h2 := hsm.1
    have h3 := hw.2.1
    have h4 : N.at_.length * (2 * 1000000 + 1) ≤ 1000000 * (2 * 1000000 + 1) := Nat.mul_le_mul_right _ (by omega)
    omega
def LinkT (G : World → Prop) : Prop := ∀ (l : List Cm.Node) (A : Option Addr) (cA : Nat) (w : World), G w → SlN w.cell? A l → l.length ≤ cA → cA ≤ maxLen → Cm.Good12 l → Calls Tryd.prog 8 #[.slice A l.length cA] w (CompP (Cm.link l) w)
theorem LinkR.out {r : Cm.Res (List Cm.Node)} {w : World} {e : Ending} {w' : World} (h : LinkR r w e w') :
    ∃ (A : Option Addr) (cp : Nat), e = .returned (.tuple #[.slice A (Cm.outL r).length cp, .int .i64 (Cm.outC r), .string ⟨(Cm.outP r).toArray⟩]) ∧ SlN w'.cell? A (Cm.outL r) ∧ (Cm.outL r).length ≤ cp ∧ cp ≤ maxLen ∧ Below w.heap.size w w' := CompR.out h

def Cm.exR : Vl := .mk 5 false Nm.Num.zero [] [] [(Cm.kRef, .mk 3 false Nm.Num.zero [35] [] [])]
def Cm.exN : List Cm.Node := [⟨[], false, false, [⟨Cm.kRef, .mk 3 false Nm.Num.zero [35] [] [], []⟩]⟩]
def Cm.exO : List Cm.Node := [⟨[], false, false, [⟨Cm.kRef, .mk 3 false Nm.Num.zero [35] [] [], [([], 0)]⟩]⟩]
theorem Cm.ex_parse : Ps.parse [123, 34, 36, 114, 101, 102, 34, 58, 34, 35, 34, 125] = .ok Cm.exR [] := by kernel_rfl
theorem Cm.ex_comp : Cm.compile Cm.exR = .ok Cm.exN := by kernel_rfl
theorem Cm.ex_nodes : Cm.linkNodes Cm.exN Cm.exN = .ok Cm.exO := by kernel_rfl
theorem Cm.ex_link : Cm.link Cm.exN = .bad 13 [] := by
  unfold Cm.link
  rw [Cm.ex_nodes]
  simp only
  rw [Cm.ring_is (out := Cm.exO) (j := 0) (by decide) (.one ⟨_, rfl, by decide⟩) (fun q hq => absurd hq (Nat.not_lt_zero _))]
  rfl
def Cm.exA : List Cm.Node := [⟨[], true, false, []⟩]
theorem Cm.ex_all : Cm.link Cm.exA = .ok Cm.exA := by
  unfold Cm.link
  rw [show Cm.linkNodes Cm.exA Cm.exA = .ok Cm.exA by rfl]
  simp only
  rw [Cm.ring_not (out := Cm.exA) (fun q hq h => by
    have hs : ∀ a b, ¬ Cm.Step Cm.exA a b := fun a b ⟨N, hN, hb⟩ => by
      have ha : a = 0 := by have := (List.getElem?_eq_some_iff.1 hN).1; simp [Cm.exA] at this; exact this
      subst ha
      obtain rfl : (⟨[], true, false, []⟩ : Cm.Node) = N := by simpa [Cm.exA] using hN
      simp [Cm.nexts] at hb
    cases h with
    | one k => exact hs _ _ k
    | more _ k => exact hs _ _ k)]

set_option linter.unusedVariables false in
set_option linter.unusedSimpArgs false in
set_option maxRecDepth 100000 in
set_option maxHeartbeats 2000000 in
theorem up12_any {G : World → Prop} (hG : Stays G) (hL : LinkT G) (w : World) (hg : G w) : Calls Tryd.prog 5 #[] w fun e w' => e = .returned (.bool true) ∧ Below w.heap.size w w' := by
  have HP := Lib.hid (refParse_any ⟨#[123, 34, 36, 114, 101, 102, 34, 58, 34, 35, 34, 125]⟩ (by decide) w)
  have HG := Lib.hid (fun (W : World) (h : Below w.heap.size w W) => hG _ _ hg h)
  have HL := Lib.hid hL
  clear hG hL hg
  go_enter Tryd.func5, Tryd.ntmps5
  go_wp2_with fail
  refine HP.out.mono ?_
  rintro e1 w1 ⟨v, x, c, p, rfl, hx, hb1, hr⟩
  rw [show (⟨#[123, 34, 36, 114, 101, 102, 34, 58, 34, 35, 34, 125]⟩ : ByteArray).data.toList = [123, 34, 36, 114, 101, 102, 34, 58, 34, 35, 34, 125] from rfl, Cm.ex_parse] at hr
  obtain ⟨rfl, rfl, rfl⟩ := hr
  obtain ⟨k_1, k_2, k_3, k_4, k_5, k_6, k_7, k_8, k_9, k_a, k_b, k_c, rfl⟩ := In.cells hx
  have hba := hb1.alloc hb1.size (.cells #[.int .i64 k_1, .bool k_2, .bool k_3, .string ⟨k_4.toArray⟩, .int .i64 k_5, .string ⟨k_6.toArray⟩, .slice k_7 k_8 k_9, .slice k_a k_b k_c] 28)
  have HB := Lib.hid hba
  have HX := Lib.hid (In.keep (le_alloc w1 (.cells #[.int .i64 k_1, .bool k_2, .bool k_3, .string ⟨k_4.toArray⟩, .int .i64 k_5, .string ⟨k_6.toArray⟩, .slice k_7 k_8 k_9, .slice k_a k_b k_c] 28)) _ _ (In.keep (on_all _ _) _ _ hx))
  have HK := Lib.hid (Blk.new w1 28 #[.int .i64 k_1, .bool k_2, .bool k_3, .string ⟨k_4.toArray⟩, .int .i64 k_5, .string ⟨k_6.toArray⟩, .slice k_7 k_8 k_9, .slice k_a k_b k_c])
  clear hx hb1 hba HP
  go_upto_region 2 with (fail)
  generalize w1.alloc (.cells #[.int .i64 k_1, .bool k_2, .bool k_3, .string ⟨k_4.toArray⟩, .int .i64 k_5, .string ⟨k_6.toArray⟩, .slice k_7 k_8 k_9, .slice k_a k_b k_c] 28) = wa at *
  generalize w1.heap.size = g1 at *
  have HRC := Lib.hid (refCompile_any Cm.exR _ wa HX.out (by simp [Cm.exR, Cm.kRef, Vl.slim, slimL, slimM, slimP, Nm.Num.zero]) (by decide))
  obtain ⟨a0, a1, a2, a3, a4, a5, a6, a7⟩ := HK.out.eight
  have hkl := HK.out.lt
  go_wp2_with fail
  refine HRC.out.mono ?_
  intro e2 w2 h2
  obtain ⟨B1, cq1, rfl, hs2, hl2, hm2, hb2⟩ := h2.out
  rw [Cm.ex_comp] at hs2 hl2 ⊢
  have HB2 := Lib.hid (HB.out.trans (hb2.mono HB.out.size))
  have HLK := Lib.hid (HL.out Cm.exN B1 cq1 w2 (HG.out _ HB2.out) hs2 hl2 hm2 ⟨by intro N hN K hK p hp; simp [Cm.exN] at hN; subst hN; simp at hK; subst hK; simp at hp, by decide, by decide, by intro N hN; simp [Cm.exN] at hN; subst hN; decide, by intro N hN; simp [Cm.exN] at hN; subst hN; decide, by intro N hN K hK; simp [Cm.exN] at hN; subst hN; simp at hK; subst hK; decide, by intro N hN K hK; simp [Cm.exN] at hN; subst hN; simp at hK; subst hK; decide⟩)
  rw [Cm.ex_link] at HLK
  rw [show Cm.outL (.ok Cm.exN) = Cm.exN from rfl, show Cm.outC (.ok Cm.exN) = 0 from rfl, show Cm.outP (.ok Cm.exN) = [] from rfl]
  clear hs2 hl2 hm2 hb2 h2 HRC a0 a1 a2 a3 a4 a5 a6 a7 hkl HK HX HB
  go_wp2_with fail
  refine HLK.out.mono ?_
  rintro e3 w3 ⟨A3, cp3, ev3, rfl, _, _, _, he3, _, hb3⟩
  have HE := Lib.hid he3
  have HB3 := Lib.hid (HB2.out.trans (hb3.mono HB2.out.size))
  clear he3 hb3 HLK HB2
  go_wp2_with fail
  refine (spell_any HE.out).mono ?_
  rintro e4 w4 ⟨rfl, hb4⟩
  have HB4 := Lib.hid (HB3.out.trans (hb4.mono HB3.out.size))
  rw [show Cm.outC (.bad 13 []) = 13 from rfl, show (Cm.outP (.bad 13 [])).toArray = #[] from rfl]
  have hb5 := HB4.out.alloc HB4.out.size (.cells #[.string ⟨#[]⟩, .bool true, .bool false, .slice none 0 0] 45)
  have HLA := Lib.hid (HL.out Cm.exA (some ⟨w4.heap.size, 0, none⟩) 1 (w4.alloc (.cells #[.string ⟨#[]⟩, .bool true, .bool false, .slice none 0 0] 45)) (HG.out _ hb5) (fun i N hi => by
    have hi0 := (List.getElem?_eq_some_iff.1 hi).1
    obtain rfl : i = 0 := by simpa [Cm.exA] using hi0
    obtain rfl : (⟨[], true, false, []⟩ : Cm.Node) = N := by simpa [Cm.exA] using hi
    refine ⟨w4.heap.size, 0, [.string ⟨#[]⟩, .bool true, .bool false, .slice none 0 0], rfl, ⟨none, 0, rfl, fun i k h => by simp at h, Nat.le_refl _, by unfold maxLen; omega⟩, fun j u hu => ?_⟩
    rw [show 0 + 0 * 4 + j = j by omega, (Blk.new w4 45 #[.string ⟨#[]⟩, .bool true, .bool false, .slice none 0 0]).cell j]
    simpa using hu) (by decide) (by unfold maxLen; omega) ⟨by intro N hN K hK p hp; simp [Cm.exA] at hN; subst hN; simp at hK, by decide, by decide, by intro N hN; simp [Cm.exA] at hN; subst hN; decide, by intro N hN; simp [Cm.exA] at hN; subst hN; decide, by intro N hN K hK; simp [Cm.exA] at hN; subst hN; simp at hK, by intro N hN K hK; simp [Cm.exA] at hN; subst hN; simp at hK⟩)
  rw [Cm.ex_all] at HLA
  have HB5 := Lib.hid hb5
  clear hb4 hb5 HE HB3
  go_wp2_with fail
  refine HLA.out.mono ?_
  rintro e5 w5 ⟨A5, cp5, ev5, rfl, _, _, _, he5, _, hb6⟩
  have HB6 := Lib.hid (HB5.out.trans (hb6.mono HB5.out.size))
  obtain rfl : ev5 = .nilIface := by
    rcases he5 with ⟨h, _⟩ | ⟨h, _⟩
    · exact h
    · exact absurd rfl h
  rw [show (Cm.outL (.ok Cm.exA)).length = 1 from rfl]
  clear he5 hb6
  go_wp2_with fail
  go_ret
  exact ⟨rfl, HB6.out⟩

set_option linter.unusedVariables false in
set_option linter.unusedSimpArgs false in
set_option maxRecDepth 100000 in
set_option maxHeartbeats 2000000 in
theorem refsTells_any {G : World → Prop} (hG : Stays G) (hL : LinkT G) (s : ByteArray) (w : World) (hg : G w) (hs : s.size ≤ 1000000000000000000) :
    Calls Tryd.prog 3 #[.string s] w fun e w' => e = .returned (.bool true) ∧ Below w.heap.size w w' := by
  have HU := Lib.hid (up12_any hG hL w hg)
  have HG := Lib.hid (fun (W : World) (h : Below w.heap.size w W) => hG _ _ hg h)
  have HL := Lib.hid hL
  clear hG hL hg
  go_enter Tryd.func3, Tryd.ntmps3
  go_wp2_with fail
  refine HU.out.mono ?_
  rintro e w0 ⟨rfl, hb0⟩
  have HB0 := Lib.hid hb0
  have HV := Lib.hid (value_told s hs w0)
  clear hb0 HU
  go_wp2_with fail
  refine HV.out.mono ?_
  rintro e1 w1 ⟨v, x, c, rfl, hx, hb1, hc⟩
  obtain ⟨k_1, k_2, k_3, k_4, k_5, k_6, k_7, k_8, k_9, k_a, k_b, k_c, rfl⟩ := In.cells hx
  have hba := hb1.alloc hb1.size (.cells #[.int .i64 k_1, .bool k_2, .bool k_3, .string ⟨k_4.toArray⟩, .int .i64 k_5, .string ⟨k_6.toArray⟩, .slice k_7 k_8 k_9, .slice k_a k_b k_c] 28)
  have HB := Lib.hid (HB0.out.trans (hba.mono HB0.out.size))
  have HX := Lib.hid (In.keep (le_alloc w1 (.cells #[.int .i64 k_1, .bool k_2, .bool k_3, .string ⟨k_4.toArray⟩, .int .i64 k_5, .string ⟨k_6.toArray⟩, .slice k_7 k_8 k_9, .slice k_a k_b k_c] 28)) _ _ hx)
  have HK := Lib.hid (Blk.new w1 28 #[.int .i64 k_1, .bool k_2, .bool k_3, .string ⟨k_4.toArray⟩, .int .i64 k_5, .string ⟨k_6.toArray⟩, .slice k_7 k_8 k_9, .slice k_a k_b k_c])
  clear hx hb1 hba HV HB0
  go_upto_region 3 with (fail)
  generalize w1.alloc (.cells #[.int .i64 k_1, .bool k_2, .bool k_3, .string ⟨k_4.toArray⟩, .int .i64 k_5, .string ⟨k_6.toArray⟩, .slice k_7 k_8 k_9, .slice k_a k_b k_c] 28) = wa at *
  generalize w1.heap.size = g1 at *
  rcases hc with rfl | ⟨rfl, hf⟩
  · go_wp2_with fail
    go_ret
    exact ⟨rfl, HB.out⟩
  have HW := Lib.hid hf.wide
  have HRC := Lib.hid (refCompile_any v _ wa HX.out HW.out.2.2 HW.out.2.1)
  obtain ⟨a0, a1, a2, a3, a4, a5, a6, a7⟩ := HK.out.eight
  have hkl := HK.out.lt
  clear hf
  go_wp2_with fail
  refine HRC.out.mono ?_
  intro e2 w2 h2
  have HR2 := Lib.hid h2
  obtain ⟨B1, cq1, rfl, hs2, hl2, hm2, hb2⟩ := h2.out
  have HB2 := Lib.hid (HB.out.trans (hb2.mono HB.out.size))
  have HS2 := Lib.hid hs2
  obtain ⟨r, hr⟩ : ∃ r, Cm.compile v = r := ⟨_, rfl⟩
  rw [hr] at HS2 hl2 ⊢
  have HRE := Lib.hid hr
  have HBD := Lib.hid (show ∀ c0 p0, r = .bad c0 p0 → ¬ c0 = 0 from fun c0 p0 e => by
    obtain ⟨_, ⟨a, A, cp, h3, _⟩ | ⟨c1, p1, h3, h4, _⟩⟩ := HR2.out
    · rw [hr, e] at h3; cases h3
    · rw [hr, e] at h3; injection h3 with h3 _; subst h3; exact h4)
  clear hs2 hb2 h2 hr HRC a0 a1 a2 a3 a4 a5 a6 a7 hkl HK HX HB HR2
  cases r with
  | bad c0 p0 =>
    have hc0 : (((Cm.outC (.bad c0 p0) : Nat) : Int) != 0) = true := by rw [bne_iff_ne]; have := HBD.out c0 p0 rfl; show ((c0 : Nat) : Int) ≠ 0; omega
    go_wp2_with fail
    go_ret
    exact ⟨rfl, HB2.out⟩
  | ok a =>
    have HGD := Lib.hid (Cm.good_of HW.out HRE.out)
    have HS3 := Lib.hid (show SlN w2.cell? B1 a from HS2.out)
    rw [show Cm.outL (.ok a) = a from rfl, show Cm.outC (.ok a) = 0 from rfl]
    change a.length ≤ cq1 at hl2
    have HPL := Lib.hid (HL.out a B1 cq1 w2 (HG.out _ HB2.out) HS3.out hl2 hm2 HGD.out)
    have HRL := Lib.hid (fun (W : World) (h : Below w2.heap.size w2 W) => refLink_any a B1 cq1 W (HS3.out.keep (le_below h)) hl2 hm2 (by have := HGD.out.few; omega) HGD.out.inside HGD.out.keys HGD.out.paths)
    generalize Cm.link a = r at HPL HRL
    clear HS2 HBD HRE
    go_wp2_with fail
    refine HPL.out.mono ?_
    rintro e3 w3 ⟨A1, cp1, ev, rfl, hs1, hl1, hm1, he, _, hb3⟩
    have HS1 := Lib.hid hs1
    have HE := Lib.hid he
    have HBA := Lib.hid hb3
    have HB3 := Lib.hid (HB2.out.trans (hb3.mono HB2.out.size))
    clear hs1 he hb3 HPL
    go_wp2_with fail
    refine (HRL.out _ HBA.out).mono ?_
    intro e4 w4 h4
    obtain ⟨B4, cq4, rfl, hs4, hl4, hm4, hb4⟩ := h4.out
    have HS1' := Lib.hid (HS1.out.keep (le_below hb4))
    have HS4 := Lib.hid hs4
    have HE4 := Lib.hid (HE.out.on hb4)
    have HB4 := Lib.hid (HB3.out.trans (hb4.mono HB3.out.size))
    clear hs4 hb4 h4 HE HS1 HB3 HRL
    generalize Cm.outL r = la at *
    generalize Cm.outC r = oc at *
    generalize Cm.outP r = op at *
    go_wp2_with fail
    refine (spell_any HE4.out).mono ?_
    rintro e5 w5 ⟨rfl, hb5⟩
    have HB5 := Lib.hid (HB4.out.trans (hb5.mono HB4.out.size))
    have HSM := Lib.hid (sameN_any la A1 cp1 B4 cq4 w5 (HS1'.out.keep (le_below hb5)) (HS4.out.keep (le_below hb5)) hl1 hm1 hl4 hm4)
    clear hb5 HS1' HS4 HE4 HB4
    go_wp2_with fail
    refine HSM.out.mono ?_
    rintro e6 w6 ⟨rfl, hb6⟩
    have HB6 := Lib.hid (HB5.out.trans (hb6.mono HB5.out.size))
    clear hb6 HSM
    go_wp2_with fail
    go_ret
    exact ⟨rfl, HB6.out⟩

end Go.Proofs.YticpgjhckjhfeaaDoor

