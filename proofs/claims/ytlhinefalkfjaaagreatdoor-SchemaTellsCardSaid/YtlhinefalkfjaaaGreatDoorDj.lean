/- The laws of layer 11 (schema), given what the program's Compile is to do: SchemaTells. -/
import Derived.Test.YtlhinefalkfjaaaGreatDoorDi
import Derived.Test.YtlhinefalkfjaaaGreatDoorCf
namespace Go.Proofs.YtlhinefalkfjaaaGreatDoor
open Go.RowKit Js Pt

def Cm.outL : Cm.Res (List Cm.Node) → List Cm.Node
  | .ok a => a
  | .bad _ _ => []
def Cm.outC : Cm.Res (List Cm.Node) → Nat
  | .ok _ => 0
  | .bad c _ => c
def Cm.outP : Cm.Res (List Cm.Node) → List UInt8
  | .ok _ => []
  | .bad _ p => text p
def spellV (b : Nat) : Value := .iface 63 (.pointer (some ⟨b, 0, none⟩))
def SpellAt (w : World) (b : Nat) (p : List UInt8) (c : Int) : Prop := w.cell? ⟨b, 0, none⟩ = some (.string ⟨p.toArray⟩) ∧ w.cell? ⟨b, 1, none⟩ = some (.int .i64 c)
def ErrS (w : World) (ev : Value) (c : Nat) (p : List UInt8) : Prop := (ev = .nilIface ∧ c = 0 ∧ p = []) ∨ (¬ c = 0 ∧ ∃ b, ev = spellV b ∧ SpellAt w b p c)
theorem ErrS.on {w w' : World} {ev : Value} {c : Nat} {p : List UInt8} (h : ErrS w ev c p) (hb : Below w.heap.size w w') : ErrS w' ev c p := by
  rcases h with h | ⟨h0, b, h1, h2, h3⟩
  · exact .inl h
  · exact .inr ⟨h0, b, h1, le_below hb _ _ h2, le_below hb _ _ h3⟩
def CompP (r : Cm.Res (List Cm.Node)) (w : World) (e : Ending) (w' : World) : Prop :=
  ∃ (A : Option Addr) (cp : Nat) (ev : Value), e = .returned (.tuple #[.slice A (Cm.outL r).length cp, ev]) ∧ SlN w'.cell? A (Cm.outL r) ∧ (Cm.outL r).length ≤ cp ∧ cp ≤ maxLen ∧ ErrS w' ev (Cm.outC r) (Cm.outP r) ∧ (ev = .nilIface → ∃ a, r = .ok a) ∧ Below w.heap.size w w'
def CompileT (G : World → Prop) : Prop := ∀ (v : Vl) (x : Value) (w : World), G w → Wide v → v.In w.cell? x → Calls Tryz.prog 7 #[x] w (CompP (Cm.compile v) w)
theorem CompR.out {r : Cm.Res (List Cm.Node)} {w : World} {e : Ending} {w' : World} (h : CompR r w e w') :
    ∃ (A : Option Addr) (cp : Nat), e = .returned (.tuple #[.slice A (Cm.outL r).length cp, .int .i64 (Cm.outC r), .string ⟨(Cm.outP r).toArray⟩]) ∧ SlN w'.cell? A (Cm.outL r) ∧ (Cm.outL r).length ≤ cp ∧ cp ≤ maxLen ∧ Below w.heap.size w w' := by
  obtain ⟨hb, ⟨a, A, cp, rfl, rfl, h1, h2, h3⟩ | ⟨c, p, rfl, _, _, rfl⟩⟩ := h
  · exact ⟨A, cp, rfl, h1, h2, h3, hb⟩
  · exact ⟨none, 0, rfl, fun i N h => by simp [Cm.outL] at h, Nat.le_refl _, by unfold maxLen; omega, hb⟩

theorem spell_nil (w : World) : Calls Tryz.prog 9 #[.nilIface] w fun e w' => e = .returned (.tuple #[.int .i64 0, .string ⟨#[]⟩]) ∧ w = w' := by
  go_enter Tryz.func9, Tryz.ntmps9
  go_wp2
  go_ret2
  exact ⟨rfl, rfl⟩
theorem assert_spell (v : Value) (w : World) : (Instr.typeAssert (.iface 63 v) 33 63 true).run Tryz.prog w = .ok (.tuple #[v, .bool true]) w := by
  simp [Instr.typeAssert, run_underlying Tryz.underlying63]
set_option maxRecDepth 100000 in
set_option maxHeartbeats 400000 in
theorem spell_at (b : Nat) (p : List UInt8) (k : Int) (w : World) (h : SpellAt w b p k) : Calls Tryz.prog 9 #[spellV b] w fun e w' => e = .returned (.tuple #[.int .i64 k, .string ⟨p.toArray⟩]) ∧ Below w.heap.size w w' := by
  obtain ⟨h0, h1⟩ := h
  unfold spellV
  have has := assert_spell (.pointer (some ⟨b, 0, none⟩)) w
  go_enter Tryz.func9, Tryz.ntmps9
  go_wp2
  go_quiet (fail)
  go_wp2
  go_ret2
  exact ⟨rfl, below_drewN (Below.refl _ _) _⟩
theorem spell_any {w : World} {ev : Value} {c : Nat} {p : List UInt8} (h : ErrS w ev c p) : Calls Tryz.prog 9 #[ev] w fun e w' => e = .returned (.tuple #[.int .i64 c, .string ⟨p.toArray⟩]) ∧ Below w.heap.size w w' := by
  rcases h with ⟨rfl, rfl, rfl⟩ | ⟨_, b, rfl, h2⟩
  · refine (spell_nil w).mono ?_
    rintro e w' ⟨rfl, rfl⟩
    exact ⟨rfl, .refl _ _⟩
  · exact spell_at b p c w h2

def Cm.exV : Vl := .mk 1 true Nm.Num.zero [] [] []
theorem Cm.ex_one : Cm.compile Cm.exV = .ok [⟨[], true, true, []⟩] := by kernel_rfl
theorem Cm.ex_none : Cm.compile Ps.mkN = .bad 14 [] := by kernel_rfl
set_option linter.unusedVariables false in
set_option linter.unusedSimpArgs false in
set_option maxRecDepth 100000 in
set_option maxHeartbeats 2000000 in
theorem up11_any {G : World → Prop} (hG : Stays G) (hC : CompileT G) (w : World) (hg : G w) : Calls Tryz.prog 5 #[] w fun e w' => e = .returned (.bool true) ∧ Below w.heap.size w w' := by
  have HC1 := Lib.hid (hC Cm.exV (.agg #[.int .i64 1, .bool true, .bool false, .string ⟨#[]⟩, .int .i64 0, .string ⟨#[]⟩, .slice none 0 0, .slice none 0 0]) w hg ⟨by decide, by decide, by simp [Cm.exV, Vl.slim, slimL, slimM, Nm.Num.zero]⟩ (leaf_in _ 1 true Nm.Num.zero []))
  have HC2 := Lib.hid (fun (W : World) (h : Below w.heap.size w W) => hC Ps.mkN (.agg #[.int .i64 0, .bool false, .bool false, .string ⟨#[]⟩, .int .i64 0, .string ⟨#[]⟩, .slice none 0 0, .slice none 0 0]) W (hG _ _ hg h) ⟨by decide, by decide, by simp [Ps.mkN, Vl.slim, slimL, slimM, Nm.Num.zero]⟩ (leaf_in _ 0 false Nm.Num.zero []))
  rw [Cm.ex_one] at HC1
  rw [Cm.ex_none] at HC2
  clear hG hC hg
  go_enter Tryz.func5, Tryz.ntmps5
  go_wp2_with fail
  refine HC1.out.mono ?_
  rintro e1 w1 ⟨A1, cp1, ev1, rfl, hs1, hl1, hm1, he1, _, hb1⟩
  obtain rfl : ev1 = .nilIface := by
    rcases he1 with ⟨h, _⟩ | ⟨h, _⟩
    · exact h
    · exact absurd rfl h
  obtain ⟨g, o, cs, rfl, ⟨A2, c2, rfl, _, _, _⟩, hc⟩ := hs1 0 _ rfl
  have H0 := Lib.hid (hc 0 _ rfl)
  have H1 := Lib.hid (hc 1 _ rfl)
  have H2 := Lib.hid (hc 2 _ rfl)
  have HB1 := Lib.hid hb1
  simp only [Nat.zero_mul, Nat.add_zero] at H0 H1 H2
  change Hid (w1.cell? ⟨g, o, none⟩ = some (.string ⟨#[]⟩)) at H0
  change 1 ≤ cp1 at hl1
  rw [show (Cm.outL (.ok [⟨[], true, true, []⟩])).length = 1 from rfl]
  unfold maxLen at hm1
  clear hs1 he1 hc hb1 HC1
  go_wp2_with fail
  refine (HC2.out _ HB1.out).mono ?_
  rintro e2 w2 ⟨A3, cp3, ev3, rfl, hs3, hl3, hm3, he3, _, hb3⟩
  have HE := Lib.hid he3
  have HB2 := Lib.hid (HB1.out.trans (hb3.mono HB1.out.size))
  have k0 := Lib.hid (le_below hb3 _ _ H0.out)
  have k1 := Lib.hid (le_below hb3 _ _ H1.out)
  have k2 := Lib.hid (le_below hb3 _ _ H2.out)
  rw [show (Cm.outL (.bad 14 [])).length = 0 from rfl]
  clear hs3 he3 hb3 HC2 H0 H1 H2 HB1
  go_wp2_with fail
  refine (spell_any HE.out).mono ?_
  rintro e4 w4 ⟨rfl, hb4⟩
  have HB4 := Lib.hid (HB2.out.trans (hb4.mono HB2.out.size))
  have j0 := le_below hb4 _ _ k0.out
  have j1 := le_below hb4 _ _ k1.out
  have j2 := le_below hb4 _ _ k2.out
  have hgl := World.block_lt_of_cell? _ _ j0
  rw [show Cm.outC (.bad 14 []) = 14 from rfl, show (Cm.outP (.bad 14 [])).toArray = #[] from rfl]
  clear hb4 k0 k1 k2 HB2 HE
  go_wp2_with fail
  go_ret
  exact ⟨rfl, HB4.out⟩

theorem Cm.wide_of {s : List UInt8} {v : Vl} {u : List UInt8} (hs : s.length ≤ 20000) (h : Ps.parse s = .ok v u) : Wide v := by
  have ht := Ps.parse_told s
  have hl := Ps.parse_slim h
  rw [h] at ht
  have h2 := ht.2
  exact ⟨ht.1.1, by omega, slim_mono (by omega) v hl⟩

set_option linter.unusedVariables false in
set_option linter.unusedSimpArgs false in
set_option maxRecDepth 100000 in
set_option maxHeartbeats 2000000 in
theorem schemaTells_any {G : World → Prop} (hG : Stays G) (hC : CompileT G) (s : ByteArray) (w : World) (hg : G w) (hs : s.size ≤ 1000000000000000000) :
    Calls Tryz.prog 3 #[.string s] w fun e w' => e = .returned (.bool true) ∧ Below w.heap.size w w' := by
  have HU := Lib.hid (up11_any hG hC w hg)
  have HG := Lib.hid (fun (W : World) (h : Below w.heap.size w W) => hG _ _ hg h)
  have HC := Lib.hid hC
  clear hG hC hg
  go_enter Tryz.func3, Tryz.ntmps3
  go_wp2_with fail
  refine HU.out.mono ?_
  rintro e w0 ⟨rfl, hb0⟩
  have HB0 := Lib.hid hb0
  clear hb0 HU
  by_cases h8 : 8000 < s.size
  · have d1 : decide ((8000 : Int) < (s.size : Int)) = true := decide_eq_true (by omega)
    have d2 : decide (8000 < s.size) = true := decide_eq_true h8
    go_wp2_with fail
    go_ret
    exact ⟨rfl, HB0.out⟩
  have d1 : decide ((8000 : Int) < (s.size : Int)) = false := decide_eq_false (by omega)
  have d2 : decide (8000 < s.size) = false := decide_eq_false h8
  have HP := Lib.hid (refParse_any s (by omega) w0)
  have HWD := Lib.hid (fun v u (h : Ps.parse s.data.toList = .ok v u) => Cm.wide_of (by rw [← Lib.size_eq]; omega) h)
  have HTL := Lib.hid (Ps.parse_told s.data.toList)
  go_wp2_with fail
  refine HP.out.mono ?_
  rintro e1 w1 ⟨v, x, c, p, rfl, hx, hb1, hr⟩
  obtain ⟨k_1, k_2, k_3, k_4, k_5, k_6, k_7, k_8, k_9, k_a, k_b, k_c, rfl⟩ := In.cells hx
  have hba := hb1.alloc hb1.size (.cells #[.int .i64 k_1, .bool k_2, .bool k_3, .string ⟨k_4.toArray⟩, .int .i64 k_5, .string ⟨k_6.toArray⟩, .slice k_7 k_8 k_9, .slice k_a k_b k_c] 28)
  have HB := Lib.hid (HB0.out.trans (hba.mono HB0.out.size))
  have HX := Lib.hid (In.keep (le_alloc w1 (.cells #[.int .i64 k_1, .bool k_2, .bool k_3, .string ⟨k_4.toArray⟩, .int .i64 k_5, .string ⟨k_6.toArray⟩, .slice k_7 k_8 k_9, .slice k_a k_b k_c] 28)) _ _ (In.keep (on_all _ _) _ _ hx))
  have HK := Lib.hid (Blk.new w1 28 #[.int .i64 k_1, .bool k_2, .bool k_3, .string ⟨k_4.toArray⟩, .int .i64 k_5, .string ⟨k_6.toArray⟩, .slice k_7 k_8 k_9, .slice k_a k_b k_c])
  have HR := Lib.hid hr
  clear hx hb1 hba HP HB0 hr
  go_upto_region 5 with (fail)
  generalize w1.alloc (.cells #[.int .i64 k_1, .bool k_2, .bool k_3, .string ⟨k_4.toArray⟩, .int .i64 k_5, .string ⟨k_6.toArray⟩, .slice k_7 k_8 k_9, .slice k_a k_b k_c] 28) = wa at *
  generalize w1.heap.size = g1 at *
  obtain ⟨r, hq⟩ : ∃ r, Ps.parse s.data.toList = r := ⟨_, rfl⟩
  rw [hq] at HR HTL HWD
  clear hq
  cases r with
  | bad c0 l =>
    obtain ⟨_, rfl, _⟩ := HR.out
    have h1 : 1 ≤ c0 := HTL.out.1
    have d3 : ((c0 : Int) != 0) = true := by rw [bne_iff_ne]; omega
    go_wp2_with fail
    go_ret
    exact ⟨rfl, HB.out⟩
  | ok v0 u =>
    obtain ⟨rfl, rfl, rfl⟩ := HR.out
    have HW := Lib.hid (HWD.out v u rfl)
    have HPC := Lib.hid (HC.out v _ wa (HG.out _ HB.out) HW.out HX.out)
    have HRC := Lib.hid (fun (W : World) (h : Below wa.heap.size wa W) => refCompile_any v _ W (In.keep (le_below h) _ _ HX.out) HW.out.2.2 HW.out.2.1)
    generalize Cm.compile v = r at HPC HRC
    clear HC HWD HTL HR
    obtain ⟨a0, a1, a2, a3, a4, a5, a6, a7⟩ := HK.out.eight
    have hkl := HK.out.lt
    go_wp2_with fail
    refine HPC.out.mono ?_
    rintro e2 w2 ⟨A1, cp1, ev, rfl, hs1, hl1, hm1, he, _, hb2⟩
    have HS1 := Lib.hid hs1
    have HE := Lib.hid he
    have HBA := Lib.hid hb2
    have HB2 := Lib.hid (HB.out.trans (hb2.mono HB.out.size))
    have HK2 := Lib.hid (HK.out.on hb2)
    clear hs1 he hb2 a0 a1 a2 a3 a4 a5 a6 a7 hkl HK HPC
    obtain ⟨a0, a1, a2, a3, a4, a5, a6, a7⟩ := HK2.out.eight
    have hkl := HK2.out.lt
    go_wp2_with fail
    refine (HRC.out _ HBA.out).mono ?_
    intro e3 w3 h3
    obtain ⟨B1, cq1, rfl, hs2, hl2, hm2, hb3⟩ := h3.out
    have HS1' := Lib.hid (HS1.out.keep (le_below hb3))
    have HS2 := Lib.hid hs2
    have HE3 := Lib.hid (HE.out.on hb3)
    have HB3 := Lib.hid (HB2.out.trans (hb3.mono HB2.out.size))
    clear hs2 hb3 h3 a0 a1 a2 a3 a4 a5 a6 a7 hkl HE HS1 HB2 HK2 HRC
    generalize Cm.outL r = la at *
    generalize Cm.outC r = oc at *
    generalize Cm.outP r = op at *
    go_wp2_with fail
    refine (spell_any HE3.out).mono ?_
    rintro e4 w4 ⟨rfl, hb4⟩
    have HB4 := Lib.hid (HB3.out.trans (hb4.mono HB3.out.size))
    have HSM := Lib.hid (sameN_any la A1 cp1 B1 cq1 w4 (HS1'.out.keep (le_below hb4)) (HS2.out.keep (le_below hb4)) hl1 hm1 hl2 hm2)
    clear hb4 HS1' HS2 HE3 HB3
    go_wp2_with fail
    refine HSM.out.mono ?_
    rintro e5 w5 ⟨rfl, hb5⟩
    have HB5 := Lib.hid (HB4.out.trans (hb5.mono HB4.out.size))
    clear hb5 HSM
    go_wp2_with fail
    go_ret
    exact ⟨rfl, HB5.out⟩

end Go.Proofs.YtlhinefalkfjaaaGreatDoor

