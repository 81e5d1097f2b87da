/- The walks of layer 3: the document's May. (By gen_refmay.py.) -/
import Derived.Test.YtfconmjgedaifaaDoorMs
import Derived.Test.YtfconmjgedaifaaDoorRf
import Derived.Test.YtfconmjgedaifaaDoorMn
import Derived.Deep.Cut
import Derived.Deep.CutRange
namespace Go.Proofs.YtfconmjgedaifaaDoor
open Go.RowKit Js

/-- Is there nothing but what a kind means? -/
def own2 (k : Int) (b : Bool) (dg s : List UInt8) (l m : Nat) : Bool :=
  (decide (k = 1) || !b) && (decide (k = 2) || decide (dg = [])) && (decide (k = 3) || decide (s = [])) && (decide (k = 4) || decide (l = 0)) && (decide (k = 5) || decide (m = 0))
theorem own2_eq {k : Int} {b neg : Bool} {dg : List UInt8} {ex : Int} {s : List UInt8} {l m : Nat} (h0 : 0 ≤ k) (h1 : k ≤ 5) (hn : mayNum ⟨neg, dg, ex⟩ = true) : ownOf k b ⟨neg, dg, ex⟩ s l m = own2 k b dg s l m := by
  have hd : decide ((⟨neg, dg, ex⟩ : Nm.Num) = Nm.Num.zero) = decide (dg = []) := by
    rw [Bool.eq_iff_iff, decide_eq_true_eq, decide_eq_true_eq]
    constructor
    · intro e; injection e
    · intro e
      subst e
      simp [mayNum] at hn
      simp [Nm.Num.zero, hn]
  unfold ownOf own2
  rw [hd, decide_eq_true h0, decide_eq_true h1]
  rfl
theorem own_range {k : Int} {b : Bool} {n : Nm.Num} {s : List UInt8} {l m : Nat} (h : ¬ (0 ≤ k ∧ k ≤ 5)) : ownOf k b n s l m = false := by
  rw [Bool.eq_false_iff]
  intro e
  unfold ownOf at e
  simp only [Bool.and_eq_true, decide_eq_true_eq] at e
  exact h ⟨e.1.1.1.1.1.1, e.1.1.1.1.1.2⟩

theorem gt0_eq (n : Nat) : decide ((0 : Int) < (n : Int)) = !decide (n = 0) := by
  rw [Bool.eq_iff_iff]; simp; omega

def RefMayL (W : World) (l : List Vl) (i : Value) (wr : World) : Prop :=
  ∃ j : Nat, j ≤ l.length ∧ i = .int .i64 j ∧ mayL l = mayL (l.drop j) ∧ Below W.heap.size W wr
def RefMayM (W : World) (m : List Js.Mem) (i : Value) (wr : World) : Prop :=
  ∃ j : Nat, j ≤ m.length ∧ i = .int .i64 j ∧ OkM m j ∧ Below W.heap.size W wr

/-- Behind a key that is less another one is neither less nor the same. -/
theorem leq_no {a b : List UInt8} (h : Lib.compareBytes a b = -1) : Op.bytesLess b a = false ∧ (b == a) = false := by
  have hf := Nm.bytes_flip a b
  rw [Nm.less_bytes]
  refine ⟨decide_eq_false (by omega), ?_⟩
  rw [beq_eq_false_iff_ne]
  rintro rfl
  have := Nm.bytes_self b
  omega
theorem leq_yes {a b : List UInt8} (h : ¬ Lib.compareBytes a b = -1) : (Op.bytesLess b a || b == a) = true := by
  have hf := Nm.bytes_flip a b
  have hr := Nm.bytes_range a b
  rw [Nm.less_bytes, Bool.or_eq_true, decide_eq_true_eq, beq_iff_eq]
  by_cases e : Lib.compareBytes a b = 0
  · exact .inr (Nm.bytes_zero _ _ e).symm
  · left; omega

set_option linter.unusedVariables false in
set_option linter.unusedSimpArgs false in
set_option maxRecDepth 100000 in
set_option maxHeartbeats 8000000 in
theorem refMay_any (v : Vl) : ∀ (x : Value) (w : World), v.In w.cell? x → v.slim 1000000000 →
    Calls Tryd.prog 41 #[x] w fun e w' => e = .returned (.bool v.may) ∧ Below w.heap.size w w' := by
  induction v using Vl.ind with
  | h k b n s l m hl hm =>
  intro x w hx hs
  obtain ⟨A, e, B, d, rfl, q1, q2, q3, q4, q5, q6⟩ := In.form hx
  obtain ⟨neg, dg, ex⟩ := n
  simp only [Vl.slim] at hs
  obtain ⟨s1, s2, s3, s4⟩ := hs
  have HL := Lib.hid (fun v hv x w hx => hl v hv x w hx ((slimL_iff _ _).1 s3 v hv))
  have HM := Lib.hid (fun p hp x w hx => hm p hp x w hx ((slimM_iff _ _).1 s4 p hp).2)
  have HMK := Lib.hid (fun p hp => ((slimM_iff _ _).1 s4 p hp).1)
  have hb0 : Below w.heap.size w (w.alloc (.cells #[.int .i64 k, .bool b, .bool neg, .string ⟨dg.toArray⟩, .int .i64 ex, .string ⟨s.toArray⟩, .slice A l.length e, .slice B m.length d] 52)) := (Below.refl _ _).alloc (Nat.le_refl _) _
  have HX := Lib.hid (Blk.new w 52 #[.int .i64 k, .bool b, .bool neg, .string ⟨dg.toArray⟩, .int .i64 ex, .string ⟨s.toArray⟩, .slice A l.length e, .slice B m.length d])
  have HB0 := Lib.hid hb0
  have HSL := Lib.hid (SlL.keep (le_below hb0) (show SlL w.cell? A l from q5))
  have HSM := Lib.hid (SlM.keep (le_below hb0) (show SlM w.cell? B m from q6))
  have HNUM := Lib.hid (fun W => refMayNum_any neg dg ex W (by omega))
  have HTXT := Lib.hid (fun W => text_any ⟨s.toArray⟩ W (by rw [Lib.size_mk]; omega))
  have HPT := Lib.hid (fun q0 q1 q2 q3 q4 => may_parts (k := k) (b := b) (n := ⟨neg, dg, ex⟩) (s := s) (l := l) (m := m) q0 q1 q2 q3 q4)
  have HOW := Lib.hid (fun h0 h1 hn => own2_eq (k := k) (b := b) (neg := neg) (dg := dg) (ex := ex) (s := s) (l := l.length) (m := m.length) h0 h1 hn)
  have HOR := Lib.hid (fun h => own_range (k := k) (b := b) (n := ⟨neg, dg, ex⟩) (s := s) (l := l.length) (m := m.length) h)
  unfold maxLen at q2 q4
  clear hl hm hx q5 q6 hb0 s1 s2 s3 s4
  rw [show (⟨s.toArray⟩ : ByteArray).data.toList = s from rfl] at HTXT
  generalize (Vl.mk k b ⟨neg, dg, ex⟩ s l m).may = qq at HPT
  generalize ownOf k b ⟨neg, dg, ex⟩ s l.length m.length = r0 at HPT HOW HOR
  generalize mayNum ⟨neg, dg, ex⟩ = r1 at HPT HNUM HOW
  generalize St.text s = r2 at HPT HTXT
  have HQ := Lib.hid (HPT.out r0 r1 r2 _ _ rfl rfl rfl rfl rfl)
  clear HPT
  go_enter Tryd.func41, Tryd.ntmps41
  go_upto_region 1 with (fail)
  generalize w.alloc (.cells #[.int .i64 k, .bool b, .bool neg, .string ⟨dg.toArray⟩, .int .i64 ex, .string ⟨s.toArray⟩, .slice A l.length e, .slice B m.length d] 52) = W0 at *
  obtain ⟨c0, c1, c2, c3, c4, c5, c6, c7⟩ := HX.out.eight
  go_wp2_with fail
  refine (HNUM.out _).mono ?_
  rintro e1 W ⟨rfl, hb1⟩
  have HB1 := Lib.hid (HB0.out.trans (hb1.mono HB0.out.size))
  have HX1 := Lib.hid (HX.out.on hb1)
  have HL1 := Lib.hid (HSL.out.keep (le_below hb1))
  have HM1 := Lib.hid (HSM.out.keep (le_below hb1))
  clear hb1 c0 c1 c2 c3 c4 c5 c6 c7 HB0 HX HSL HSM HNUM
  obtain ⟨c0, c1, c2, c3, c4, c5, c6, c7⟩ := HX1.out.eight
  go_wp2_with fail
  refine (HTXT.out _).mono ?_
  rintro e1 w1 ⟨rfl, rfl⟩
  clear HTXT
  by_cases hk0 : k < 0
  · have t0 : decide (k < 0) = true := by simpa using hk0
    have HF := Lib.hid (HOR.out (by omega))
    go_wp2_with fail
    go_ret
    exact ⟨by rw [HQ.out, HF.out]; rfl, HB1.out⟩
  by_cases hk5 : 5 < k
  · have t5 : decide (5 < k) = true := by simpa using hk5
    have HF := Lib.hid (HOR.out (by omega))
    go_wp2_with fail
    go_ret
    exact ⟨by rw [HQ.out, HF.out]; rfl, HB1.out⟩
  have t0 : decide (k < 0) = false := by simpa using hk0
  have t5 : decide (5 < k) = false := by simpa using hk5
  cases r1 with
  | false =>
    go_wp2_with fail
    go_ret
    exact ⟨by rw [HQ.out, Bool.and_false]; rfl, HB1.out⟩
  | true =>
  cases r2 with
  | false =>
    go_wp2_with fail
    go_ret
    exact ⟨by rw [HQ.out, Bool.and_false]; rfl, HB1.out⟩
  | true =>
  obtain rfl := HOW.out (by omega) (by omega) rfl
  clear HOR HOW
  have hk : k = 0 ∨ k = 1 ∨ k = 2 ∨ k = 3 ∨ k = 4 ∨ k = 5 := by omega
  have gl := gt0_eq l.length
  have gm := gt0_eq m.length
  have GL := Lib.hid gl
  have GM := Lib.hid gm
  clear gl gm
  go_upto_region 5 with (fail)
  generalize (vlV k b neg dg ex s (.slice A l.length e) (.slice B m.length d)) = p0
  generalize (Value.agg #[.bool neg, .string ⟨dg.toArray⟩, .int .i64 ex]) = p11
  generalize (Value.string ⟨s.toArray⟩) = p14
  go_cut [81] from 32 to 82 (fun x wc => x = .bool (!own2 k b dg s l.length m.length) ∧ wc = W)
  case first =>
    clear HL HM HMK HL1 HM1 HQ HB1
    rcases hk with rfl | rfl | rfl | rfl | rfl | rfl
    all_goals
      go_wp2_with fail
      all_goals
        go_meet
        case rel =>
          refine ⟨?_, rfl⟩
          congr 1
          unfold own2
          clear c0 c1 c2 c3 c4 c5 c6 c7 HX1 q1 q3
          generalize l.length = nl at *
          generalize m.length = nm at *
          first | (simp_all; done) | (simp_all; omega) | trace_state
  case rest =>
    obtain ⟨rfl, hw⟩ := hcut
    have hw2 := hw.symm
    subst hw2
    clear hw
    generalize own2 k b dg s l.length m.length = r0 at HQ ⊢
    cases r0 with
    | false =>
      go_wp2_with fail
      go_ret
      exact ⟨by rw [HQ.out]; rfl, HB1.out⟩
    | true =>
      rw [show (!true) = false from rfl]
      go_wp2_with fail
      clear c0 c1 c2 c3 c4 c5 c6 c7 hk t0 t5 GL GM
      go_loopw [5] (RefMayL W l) (fun i _ => l.length - (intOf i).toNat)
      case atStart => exact ⟨0, by omega, rfl, rfl, Below.refl _ _⟩
      case round =>
        obtain ⟨j, hj, rfl, hsm, hW⟩ := hrel
        have HSM2 := Lib.hid hsm
        clear hsm
        obtain ⟨c0, c1, c2, c3, c4, c5, c6, c7⟩ := (HX1.out.on hW).eight
        by_cases hlt : j < l.length
        · have hle : Cl.le W.cell? wr.cell? := le_below hW
          obtain ⟨g, o, y, rfl, hy, hc⟩ := HL1.out j _ (List.getElem?_eq_getElem hlt)
          obtain ⟨k1, b1, n1, g1, x1, s1, A1, l1, p1, B1, m1, z1, rfl⟩ := In.cells hy
          obtain ⟨e0, e1, e2, e3, e4, e5, e6, e7⟩ := (hc.keep hle).eight
          have HY := Lib.hid (In.keep hle _ _ hy)
          have HSTEP := Lib.hid (show mayL (l.drop j) = (l[j].may && mayL (l.drop (j + 1))) by
            rw [List.drop_eq_getElem_cons hlt]; simp only [mayL])
          have HIH := Lib.hid (HL.out l[j] (List.getElem_mem _))
          clear hc hy hle
          generalize l[j].may = q at HSTEP HIH
          go_wp2_with fail
          refine (HIH.out _ _ HY.out).mono ?_
          rintro e' w2 ⟨rfl, hb2⟩
          have hb : Below W.heap.size W w2 := hW.trans (hb2.mono hW.size)
          cases q with
          | true =>
            go_wp2_with fail
            go_roundw
            case rel => exact ⟨j + 1, by omega, by go_num, by rw [HSM2.out, HSTEP.out]; rfl, hb⟩
            case measure => simp [intOf]; omega
          | false =>
            go_wp2_with fail
            go_ret
            exact ⟨by rw [HQ.out, HSM2.out, HSTEP.out]; rfl, HB1.out.trans (hb.mono HB1.out.size)⟩
        · obtain rfl : j = l.length := by omega
          have HE := Lib.hid (show mayL l = true by rw [HSM2.out, List.drop_length]; simp only [mayL])
          have HQ2 := Lib.hid (show qq = (mayM m && rises (m.map (·.1))) by rw [HQ.out, HE.out]; rfl)
          clear HQ HE HSM2
          go_wp2_with fail
          go_loopw [7] (RefMayM W m) (fun i _ => m.length - (intOf i).toNat)
          case atStart => exact ⟨0, by omega, rfl, (fun i p hi => by omega), hW⟩
          case round =>
            clear hW c0 c1 c2 c3 c4 c5 c6 c7
            obtain ⟨j, hj, rfl, hok, hW⟩ := hrel
            have HOK := Lib.hid hok
            clear hok
            obtain ⟨c0, c1, c2, c3, c4, c5, c6, c7⟩ := (HX1.out.on hW).eight
            by_cases hlt : j < m.length
            · have hle : Cl.le W.cell? wr.cell? := le_below hW
              have hgp := List.getElem?_eq_getElem hlt
              obtain ⟨g, o, y, rfl, hy, hk, hc⟩ := HM1.out j _ hgp
              obtain ⟨k1, b1, n1, g1, x1, s1, A1, l1, p1, B1, m1, z1, rfl⟩ := In.cells hy
              obtain ⟨e0, e1, e2, e3, e4, e5, e6, e7⟩ := (hc.keep hle).eight
              have HY := Lib.hid (In.keep hle _ _ hy)
              have HGP := Lib.hid hgp
              have HIH := Lib.hid (HM.out m[j] (List.getElem_mem _))
              have hkl := HMK.out m[j] (List.getElem_mem _)
              have EK := Lib.hid (hle _ _ hk)
              clear hc hy hk hgp hle
              generalize m[j] = p at *
              obtain ⟨key, v⟩ := p
              simp only at HGP HIH hkl EK
              have ek := EK.out
              go_wp2_with fail
              refine (HIH.out _ _ HY.out).mono ?_
              rintro e' w2 ⟨rfl, hb2⟩
              have hb : Below W.heap.size W w2 := hW.trans (hb2.mono hW.size)
              have ek2 := le_below hb2 _ _ ek
              clear hb2 e0 e1 e2 e3 e4 e5 e6 e7 c0 c1 c2 c3 c4 c5 c6 c7 ek EK HY HIH hW
              obtain ⟨c0, c1, c2, c3, c4, c5, c6, c7⟩ := (HX1.out.on hb).eight
              have HB5 := Lib.hid hb
              clear hb
              have HTX := Lib.hid (text_any ⟨key.toArray⟩ w2 (by rw [Lib.size_mk]; omega))
              rw [show (⟨key.toArray⟩ : ByteArray).data.toList = key from rfl] at HTX
              have HFT := Lib.hid (fun h => okM_text (m := m) HGP.out h)
              have HST := Lib.hid (fun h1 h2 h3 => HOK.out.step (p := (key, v)) HGP.out h1 h2 h3)
              simp only at HFT HST
              generalize v.may = qv at HFT HST ⊢
              generalize St.text key = qt at HFT HST HTX
              go_wp2_with fail
              refine HTX.out.mono ?_
              rintro e' w5 ⟨rfl, rfl⟩
              cases qv with
              | false =>
                have HF := Lib.hid (HFT.out (by simp))
                go_wp2_with fail
                go_ret
                exact ⟨by rw [HQ2.out, HF.out]; rfl, HB1.out.trans (HB5.out.mono HB1.out.size)⟩
              | true =>
              cases qt with
              | false =>
                have HF := Lib.hid (HFT.out (by simp))
                go_wp2_with fail
                go_ret
                exact ⟨by rw [HQ2.out, HF.out]; rfl, HB1.out.trans (HB5.out.mono HB1.out.size)⟩
              | true =>
              clear HFT HTX
              by_cases hj0 : 0 < j
              · obtain ⟨i, rfl⟩ : ∃ i, j = i + 1 := ⟨j - 1, by omega⟩
                have hgq := List.getElem?_eq_getElem (show i < m.length by omega)
                obtain ⟨g', o', y', hA, hy', hk', hc'⟩ := HM1.out i _ hgq
                cases hA
                have HGQ := Lib.hid hgq
                have ekq := le_below HB5.out _ _ hk'
                clear hy' hc' hk' hgq y'
                generalize m[i] = q at *
                obtain ⟨keyq, vq⟩ := q
                simp only at ekq HGQ
                have hjj : decide ((0 : Int) < ((i + 1 : Nat) : Int)) = true := by simp
                by_cases hcmp : Lib.compareBytes keyq key = -1
                · have hlq := leq_no hcmp
                  obtain ⟨u1, u2⟩ := hlq
                  have HK := Lib.hid (HST.out rfl rfl (fun q _ hq => by
                    rw [Nat.add_sub_cancel, HGQ.out] at hq
                    cases hq
                    exact hcmp))
                  clear hcmp
                  go_wp2_with fail
                  go_quiet (fail)
                  go_wp2_with fail
                  go_roundw
                  case rel => exact ⟨i + 1 + 1, by omega, by go_num, HK.out, below_drewN HB5.out _⟩
                  case measure => simp [intOf]; omega
                · have HF := Lib.hid (okM_rise (m := m) (j := i + 1) (by omega) HGP.out HGQ.out hcmp)
                  have hlq := leq_yes hcmp
                  clear hcmp
                  cases hbl : Op.bytesLess key keyq with
                  | true =>
                    clear hlq
                    go_wp2_with fail
                    go_quiet (fail)
                    go_wp2_with fail
                    go_ret
                    exact ⟨by rw [HQ2.out, HF.out]; rfl, HB1.out.trans ((below_drewN HB5.out _).mono HB1.out.size)⟩
                  | false =>
                    have u2 : (key == keyq) = true := by rw [hbl, Bool.false_or] at hlq; exact hlq
                    clear hlq
                    have u3 : key = keyq := by simpa using u2
                    subst u3
                    clear u2
                    go_wp2_with fail
                    go_quiet (fail)
                    go_wp2_with fail
                    go_ret
                    exact ⟨by rw [HQ2.out, HF.out]; rfl, HB1.out.trans ((below_drewN HB5.out _).mono HB1.out.size)⟩
              · have HK := Lib.hid (HST.out rfl rfl (fun q h => absurd h hj0))
                have hjj : decide ((0 : Int) < (j : Int)) = false := by simp; omega
                go_wp2_with fail
                go_quiet (fail)
                go_wp2_with fail
                go_roundw
                case rel => exact ⟨j + 1, by omega, by go_num, HK.out, below_drewN HB5.out _⟩
                case measure => simp [intOf]; omega
            · obtain rfl : j = m.length := by omega
              have HE := Lib.hid HOK.out.all
              go_wp2_with fail
              go_ret
              exact ⟨by rw [HQ2.out, HE.out]; rfl, HB1.out.trans (hW.mono HB1.out.size)⟩

end Go.Proofs.YtfconmjgedaifaaDoor
