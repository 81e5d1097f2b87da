/- The walks of layer 7 (edit): the document's Edit, of a member, walked: further on, and well. -/
import Derived.Test.YtjjenpmahmbafaaGreatDoorJd
import Derived.Deep.CutRange
import Derived.Deep.RegionLaw
namespace Go.Proofs.YtjjenpmahmbafaaGreatDoor
open Go.RowKit Pt Js

set_option linter.unusedSimpArgs false in
set_option linter.unusedVariables false in
set_option maxRecDepth 100000 in
set_option maxHeartbeats 16000000 in
theorem refEdit_moreA (op : Nat) (h13 : op = 1 ∨ op = 2 ∨ op = 3) (nm : List UInt8) (ns : List (List UInt8)) (ih : ns ≠ [] → EditC op ns) (S : Nat → Prop) (k : Int) (hk4 : k ≠ 4) (hmode : ns ≠ []) (b : Bool) (n : Nm.Num) (s : List UInt8) (l : List Vl) (m : List Js.Mem) (x : Vl) (xv xx : Value) (A : Option Addr) (e : Nat) (w : World) (hlo : k = 5 ∧ ∃ y, Js.find m nm = some y ∧ ∃ z, Ed.edit op ns y x = .ok z)
    (hS : ∀ b, S b → b < w.heap.size) (hv : (Vl.mk k b n s l m).In (w.on S) xv) (hx : x.In (w.on S) xx) (hs : Strs w.cell? A (nm :: ns)) (he : (nm :: ns).length ≤ e) (hm : e ≤ maxLen) (hns : ∀ q ∈ nm :: ns, q.length ≤ 1000000) (hne : Ed.neat (.mk k b n s l m) = true) (hsz : (Vl.mk k b n s l m).size ≤ 1000000) :
    Calls Tryz.prog 43 #[.int .i64 op, xv, .slice A (nm :: ns).length e, xx] w (EditPost S (Ed.edit op (nm :: ns) (.mk k b n s l m) x) w) := by
  obtain ⟨A', e', B', d', rfl, q1, q2, q3, q4, q5, q6⟩ := In.form hv
  obtain ⟨x_1, x_2, x_3, x_4, x_5, x_6, x_7, x_8, x_9, x_a, x_b, x_c, rfl⟩ := In.cells hx
  obtain ⟨g0, o0, rfl, hc0⟩ := hs 0 nm rfl
  rw [Nat.add_zero] at hc0
  simp only [List.length_cons] at he
  have hmm : m.length ≤ 1000000 := by have := sizeM_len m; simp only [Vl.size] at hsz; omega
  have hnl := hns nm (by simp)
  have HX := Lib.hid hx
  have HS := Lib.hid hS
  have HM := Lib.hid (show SlM (w.on S) B' m from q6)
  have HV := Lib.hid hv
  have HST := Lib.hid hs
  have HNS := Lib.hid hns
  have HNE := Lib.hid hne
  have HSZ := Lib.hid hsz
  unfold maxLen at hm q2 q4
  have HE4 := Lib.hid (show Ed7 w (w.heap.size + 1 + 1) (w.heap.size + 1 + 1 + 1) #[.int .i64 k, .bool b, .bool n.neg, .string ⟨n.digits.toArray⟩, .int .i64 n.exp, .string ⟨s.toArray⟩, .slice A' l.length e', .slice B' m.length d'] #[.int .i64 x_1, .bool x_2, .bool x_3, .string ⟨x_4.toArray⟩, .int .i64 x_5, .string ⟨x_6.toArray⟩, .slice x_7 x_8 x_9, .slice x_a x_b x_c] #[.int .i64 k, .bool b, .bool n.neg, .string ⟨n.digits.toArray⟩, .int .i64 n.exp, .string ⟨s.toArray⟩, .slice none 0 0, .slice none 0 0] ((((w.alloc (.cells #[.int .i64 k, .bool b, .bool n.neg, .string ⟨n.digits.toArray⟩, .int .i64 n.exp, .string ⟨s.toArray⟩, .slice A' l.length e', .slice B' m.length d'] 28)).alloc (.cells #[.int .i64 x_1, .bool x_2, .bool x_3, .string ⟨x_4.toArray⟩, .int .i64 x_5, .string ⟨x_6.toArray⟩, .slice x_7 x_8 x_9, .slice x_a x_b x_c] 28)).alloc (.cells #[.int .i64 0, .bool false, .bool false, .string ⟨#[]⟩, .int .i64 0, .string ⟨#[]⟩, .slice none 0 0, .slice none 0 0] 28)).alloc (.cells #[.int .i64 k, .bool b, .bool n.neg, .string ⟨n.digits.toArray⟩, .int .i64 n.exp, .string ⟨s.toArray⟩, .slice none 0 0, .slice none 0 0] 28)) from
    ⟨rfl, rfl, (((Blk.new w _ #[.int .i64 k, .bool b, .bool n.neg, .string ⟨n.digits.toArray⟩, .int .i64 n.exp, .string ⟨s.toArray⟩, .slice A' l.length e', .slice B' m.length d']).alloc _).alloc _).alloc _, ((Blk.new2 w _ _ #[.int .i64 x_1, .bool x_2, .bool x_3, .string ⟨x_4.toArray⟩, .int .i64 x_5, .string ⟨x_6.toArray⟩, .slice x_7 x_8 x_9, .slice x_a x_b x_c]).alloc _).alloc _, (Blk.new3 w _ _ _ #[.int .i64 0, .bool false, .bool false, .string ⟨#[]⟩, .int .i64 0, .string ⟨#[]⟩, .slice none 0 0, .slice none 0 0]).alloc _, by have := Blk.new (((w.alloc (.cells #[.int .i64 k, .bool b, .bool n.neg, .string ⟨n.digits.toArray⟩, .int .i64 n.exp, .string ⟨s.toArray⟩, .slice A' l.length e', .slice B' m.length d'] 28)).alloc (.cells #[.int .i64 x_1, .bool x_2, .bool x_3, .string ⟨x_4.toArray⟩, .int .i64 x_5, .string ⟨x_6.toArray⟩, .slice x_7 x_8 x_9, .slice x_a x_b x_c] 28)).alloc (.cells #[.int .i64 0, .bool false, .bool false, .string ⟨#[]⟩, .int .i64 0, .string ⟨#[]⟩, .slice none 0 0, .slice none 0 0] 28)) 28 #[.int .i64 k, .bool b, .bool n.neg, .string ⟨n.digits.toArray⟩, .int .i64 n.exp, .string ⟨s.toArray⟩, .slice none 0 0, .slice none 0 0]; simpa using this, (below_three w _ _ _).alloc (by simp; omega) _⟩)
  clear hv hx hs hns hne hsz q5 q6 hS
  obtain ⟨last, hlast⟩ : ∃ last, ns.isEmpty = last := ⟨_, rfl⟩
  have hlb : ((ns.length : Int) + 1 == 1) = last := by
    rw [← hlast]
    cases ns with
    | nil => rfl
    | cons a r => rw [List.isEmpty_cons, beq_eq_false_iff_ne]; simp only [List.length_cons]; omega
  have hnz0 : ((ns.length : Int) + 1 == 0) = false := by rw [beq_eq_false_iff_ne]; omega
  have HLAST := Lib.hid hlast
  have HMODE := Lib.hid (show last = false from by rw [← hlast]; cases ns with | nil => exact absurd rfl hmode | cons a r => rfl)
  have HLO := Lib.hid hlo
  clear hlast hmode hlo
  have hk4' : ((k : Int) == 4) = false := by rw [beq_eq_false_iff_ne]; exact hk4
  have HK4 := Lib.hid hk4
  clear hk4
  go_enter Tryz.func43, Tryz.ntmps43
  go_wp2_with fail
  go_upto_region 27 with (fail)
  generalize ((((w.alloc (.cells #[.int .i64 k, .bool b, .bool n.neg, .string ⟨n.digits.toArray⟩, .int .i64 n.exp, .string ⟨s.toArray⟩, .slice A' l.length e', .slice B' m.length d'] 28)).alloc (.cells #[.int .i64 x_1, .bool x_2, .bool x_3, .string ⟨x_4.toArray⟩, .int .i64 x_5, .string ⟨x_6.toArray⟩, .slice x_7 x_8 x_9, .slice x_a x_b x_c] 28)).alloc (.cells #[.int .i64 0, .bool false, .bool false, .string ⟨#[]⟩, .int .i64 0, .string ⟨#[]⟩, .slice none 0 0, .slice none 0 0] 28)).alloc (.cells #[.int .i64 k, .bool b, .bool n.neg, .string ⟨n.digits.toArray⟩, .int .i64 n.exp, .string ⟨s.toArray⟩, .slice none 0 0, .slice none 0 0] 28)) = w4 at *
  generalize w.heap.size + 1 + 1 + 1 = g10 at *
  generalize w.heap.size + 1 + 1 = g8 at *
  have hc1 := le_below HE4.out.below _ _ hc0
  have hgl := World.block_lt_of_cell? _ _ hc1
  obtain ⟨v0, v1, v2, v3, v4, v5, v6, v7⟩ := HE4.out.v.eight
  have vl := HE4.out.v.lt
  have hb4 := HE4.out.below
  have HFIND := Lib.hid (fun W (h : Below w4.heap.size w4 W) => refFindC_any (w.on S) (Vl.mk k b n s l m) nm _ W ((on_all w S).trans (le_below (hb4.trans (h.mono hb4.size)))) HV.out)
  clear hb4
  obtain ⟨ff, hff⟩ : ∃ ff, (Vl.mk k b n s l m).find nm = ff := ⟨_, rfl⟩
  rw [hff] at HFIND
  have HFF := Lib.hid hff
  clear hff
  have hsz4 := HE4.out.size
  go_cut [18, 19] from 132 to 132 (fun v18 v19 wc => v19 = .bool ff.isSome ∧ Ed7 w g8 g10 #[.int .i64 k, .bool b, .bool n.neg, .string ⟨n.digits.toArray⟩, .int .i64 n.exp, .string ⟨s.toArray⟩, .slice A' l.length e', .slice B' m.length d'] #[.int .i64 x_1, .bool x_2, .bool x_3, .string ⟨x_4.toArray⟩, .int .i64 x_5, .string ⟨x_6.toArray⟩, .slice x_7 x_8 x_9, .slice x_a x_b x_c] (outC k b n s (.slice none 0 0) (.slice none 0 0)) wc)
  case first =>
    go_region_law (first | (go_simp; go_at_call 30; refine (HFIND.out _ (by first | exact (Below.refl _ _).drew | exact ((Below.refl _ _).alloc (Nat.le_refl _) _).drew)).mono ?_; intro e9 w9 hp9; obtain ⟨y9, rfl, hy9, hb9⟩ := hp9; obtain ⟨j1, j2, j3, j4, j5, j6, j7, j8, j9, ja, jb, jc, rfl⟩ := In.cells hy9; first | (have h8 : Blk w9 w4.heap.size 28 zeroC := (show Blk (World.drew (w4.alloc (.cells zeroC 28))) _ _ _ from Blk.new w4 _ _).on hb9; have h8c := h8.eight; have h8f := h8.frozen; have h8l := h8.lt; have HB9 := Lib.hid ((((Below.refl w4.heap.size w4).alloc (Nat.le_refl _) (.cells zeroC 28)).drew).trans (hb9.mono (by simp))); clear h8) | (have HB9 := Lib.hid (((Below.refl w4.heap.size w4).drew).trans (show Below w4.heap.size w4.drew w9 from hb9))); have hsz9 := HB9.out.size; clear hb9 hy9))
    all_goals
      go_wp2_with fail
      go_meet
      case rel =>
        refine ⟨rfl, ?_⟩
        first
          | (with_reducible exact (HE4.out.on HB9.out).set8 hsz4 _ _ _ _ _ _ _ _)
          | (with_reducible exact HE4.out.on (HB9.out.alloc hsz9 _))
  case rest =>
    obtain ⟨rfl, hE⟩ := hcut
    have HE := Lib.hid hE
    clear v0 v1 v2 v3 v4 v5 v6 v7 vl hc1 hgl HE4 HFIND hsz4
    obtain ⟨v0, v1, v2, v3, v4, v5, v6, v7⟩ := hE.v.eight
    have vl := hE.v.lt
    obtain ⟨hs, hhs⟩ : ∃ hs, ff.isSome = hs := ⟨_, rfl⟩
    obtain ⟨k5, hk5⟩ : ∃ k5, ((k : Int) != 5) = k5 := ⟨_, rfl⟩
    obtain ⟨o1, ho1⟩ : ∃ o1, ((op : Int) != 1) = o1 := ⟨_, rfl⟩
    rw [hhs]
    have ho1d : decide (op ≠ 1) = o1 := by rw [← ho1, Bool.eq_iff_iff, decide_eq_true_eq]; simp; omega
    have HHS := Lib.hid hhs
    have HO1 := Lib.hid ho1d
    have hk5d : decide (k ≠ 5) = k5 := by rw [← hk5, Bool.eq_iff_iff, decide_eq_true_eq]; simp
    have HK5 := Lib.hid hk5d
    clear ho1d hk5d hhs hE
    go_upto_region 28 with (fail)
    go_cut [154] from 140 to 140 (fun v154 wd => v154 = .bool (k5 || (!hs && (o1 || !last))) ∧ wd = wc)
    case first =>
      have hk50 : k5 = false := by rw [← HK5.out]; exact decide_eq_false (fun h => h HLO.out.1)
      have hhs1 : hs = true := by rw [← HHS.out, ← HFF.out, Ed.find_five, if_pos HLO.out.1]; obtain ⟨y, hy, _⟩ := HLO.out.2; rw [hy]; rfl
      clear HK5 HO1 HHS HLAST
      obtain rfl : false = k5 := hk50.symm
      obtain rfl : true = hs := hhs1.symm
      go_wp2_with fail
      go_meet
      case rel => exact ⟨rfl, rfl⟩
    case rest =>
      obtain ⟨rfl, rfl⟩ := hcut
      clear ho1 hk5
      obtain ⟨bb, hbb⟩ : ∃ bb, (k5 || (!hs && (o1 || !last))) = bb := ⟨_, rfl⟩
      rw [hbb]
      cases bb with
      | true =>
        exfalso
        have h1 : k5 = false := by rw [← HK5.out]; exact decide_eq_false (fun h => h HLO.out.1)
        have h2 : hs = true := by rw [← HHS.out, ← HFF.out, Ed.find_five, if_pos HLO.out.1]; obtain ⟨y, hy, _⟩ := HLO.out.2; rw [hy]; rfl
        rw [h1, h2] at hbb
        exact absurd hbb (by simp)
      | false =>
        have hb2 := hbb
        rw [Bool.or_eq_false_iff, ← HK5.out, decide_eq_false_iff_not, Decidable.not_not] at hb2
        obtain ⟨rfl, hb2⟩ := hb2
        have hfm : Js.find m nm = ff := by rw [← HFF.out, Ed.find_five, if_pos rfl]
        have hff2 : last = true → (op = 1 ∨ (Js.find m nm).isSome = true) := fun h => by
          subst h
          rw [hfm, HHS.out]
          rw [Bool.not_true, Bool.or_false, Bool.and_eq_false_iff, Bool.not_eq_false', ← HO1.out, decide_eq_false_iff_not, Decidable.not_not] at hb2
          exact hb2.symm
        have hff3 : last = false → ∃ y, Js.find m nm = some y := fun h => by
          subst h
          rw [Bool.not_false, Bool.or_true, Bool.and_true, Bool.not_eq_false', ← HHS.out, ← hfm] at hb2
          exact Option.isSome_iff_exists.1 hb2
        have HF2 := Lib.hid hff2
        have HF3 := Lib.hid hff3
        clear hbb hb2 hfm hff2 hff3 HK5 HK4 hk4' HHS HO1 HFF HV
        obtain ⟨zr, hzr⟩ : ∃ zr : Vl, zr = (match Ed.edit op ns ((Js.find m nm).getD x) x with | .ok z => z | .bad _ => x) := ⟨_, rfl⟩
        have HZR := Lib.hid hzr
        clear hzr
        go_wp2_with fail
        go_loopw [20, 21] (EMing S w g8 g10 #[.int .i64 5, .bool b, .bool n.neg, .string ⟨n.digits.toArray⟩, .int .i64 n.exp, .string ⟨s.toArray⟩, .slice A' l.length e', .slice B' m.length d'] #[.int .i64 x_1, .bool x_2, .bool x_3, .string ⟨x_4.toArray⟩, .int .i64 x_5, .string ⟨x_6.toArray⟩, .slice x_7 x_8 x_9, .slice x_a x_b x_c] b n s m.length (Ed.hasP op last m nm) (Ed.outM op last m nm x zr) (fun j => last = false → ∀ (i : Nat) (p : Js.Mem), i < j → m[i]? = some p → p.1 = nm → Ed.edit op ns p.2 x = .ok zr)) (fun _ v _ => m.length + 1 - (intOf v).toNat)
        case atStart => exact ⟨0, none, 0, by rw [Ed.hasP_zero], rfl, by omega, by rw [Ed.outM_zero]; exact ⟨HE.out, RowG.nil _ _⟩, fun _ i p h => by omega⟩
        case round =>
          clear HE v0 v1 v2 v3 v4 v5 v6 v7 vl
          obtain ⟨j, Ar, cp, rfl, rfl, hj, hE, hR⟩ := hrel
          obtain ⟨hed, hrow⟩ := hE
          have hal := Ed.outM_len (op := op) (last := last) (nm := nm) (x := x) (z := zr) hj
          obtain ⟨acc, hacc⟩ : ∃ acc, Ed.outM op last m nm x zr j = acc := ⟨_, rfl⟩
          rw [hacc] at hed hrow hal
          obtain ⟨hp, hhp⟩ : ∃ hp, Ed.hasP op last m nm j = hp := ⟨_, rfl⟩
          rw [hhp]
          obtain ⟨nw, hnw⟩ : ∃ nw, Ed.putNow op last m nm j = nw := ⟨_, rfl⟩
          obtain ⟨o2, ho2⟩ : ∃ o2, ((op : Int) != 2) = o2 := ⟨_, rfl⟩
          have ho2d : decide (op ≠ 2) = o2 := by rw [← ho2, Bool.eq_iff_iff, decide_eq_true_eq]; simp; omega
          have HAK := Lib.hid hacc
          have HE := Lib.hid hed
          have HROW := Lib.hid hrow
          have HRJ := Lib.hid hR
          have HHP := Lib.hid hhp
          have HNW := Lib.hid hnw
          have HO2 := Lib.hid ho2d
          have hrl := hrow.le
          obtain ⟨v0, v1, v2, v3, v4, v5, v6, v7⟩ := hed.v.eight
          have vl := hed.v.lt
          obtain ⟨a0, a1, a2, a3, a4, a5, a6, a7⟩ := hed.o.eight
          have of := hed.o.frozen
          have ol := hed.o.lt
          obtain ⟨y0, y1, y2, y3, y4, y5, y6, y7⟩ := hed.x.eight
          have yxl := hed.x.lt
          have hsz4 := hed.size
          have hc1 := le_below hed.below _ _ hc0
          have hgl := World.block_lt_of_cell? _ _ hc1
          have hjc : (j : Int) ≤ (m.length : Int) := by omega
          clear hed hR hacc hrow hhp hnw ho2d
          obtain ⟨i0, hi0, hz0, hz1, hz2⟩ := infoM'
          go_upto_region 34 with (fail)
          go_cut [171] from 156 to 156 (fun v171 wd => v171 = .bool (last && (o2 && !hp)) ∧ wd = wr)
          case first =>
            cases last
            · go_wp2_with fail
              go_meet
              case rel => exact ⟨rfl, rfl⟩
            · cases o2
              · go_wp2_with fail
                go_meet
                case rel => exact ⟨rfl, rfl⟩
              · go_wp2_with fail
                go_meet
                case rel => exact ⟨rfl, rfl⟩
          case rest =>
            obtain ⟨rfl, hwc⟩ := hcut
            obtain rfl : wr = wc := hwc.symm
            obtain ⟨pn, hpn⟩ : ∃ pn, (last && (o2 && !hp)) = pn := ⟨_, rfl⟩
            rw [hpn]
            have HPN := Lib.hid hpn
            clear hpn
            go_upto_if 171 with (fail)
            go_cut [20] from 156 to 156 (fun v20 we => ∃ A7 cp7, v20 = .bool (hp || nw) ∧ EMem S w g8 g10 #[.int .i64 5, .bool b, .bool n.neg, .string ⟨n.digits.toArray⟩, .int .i64 n.exp, .string ⟨s.toArray⟩, .slice A' l.length e', .slice B' m.length d'] #[.int .i64 x_1, .bool x_2, .bool x_3, .string ⟨x_4.toArray⟩, .int .i64 x_5, .string ⟨x_6.toArray⟩, .slice x_7 x_8 x_9, .slice x_a x_b x_c] b n s (Ed.midM op last m nm x zr j) A7 cp7 we)
            case first =>
              cases pn with
              | false =>
                have hn0 : nw = false := by
                  rw [← HNW.out]
                  have h := HPN.out
                  unfold Ed.putNow
                  rw [HO2.out]
                  rw [← HHP.out] at h
                  unfold Ed.hasP at h
                  rw [HO2.out] at h
                  revert h
                  cases last <;> cases o2 <;> cases Ed.met nm m j <;> simp
                have HMD := Lib.hid (show Ed.midM op last m nm x zr j = acc by unfold Ed.midM; rw [HAK.out, HNW.out, hn0, if_neg (by decide), List.append_nil])
                subst hn0
                go_wp2_with fail
                go_meet
                case rel => exact ⟨Ar, cp, by rw [Bool.or_false], by rw [HMD.out]; exact ⟨HE.out, HROW.out⟩⟩
              | true =>
                have h := HPN.out
                rw [HMODE.out] at h
                exact absurd h (by simp)
            case rest =>
              obtain ⟨A7, cp7, rfl, hmid⟩ := hcut
              obtain ⟨hed7, hrow7⟩ := hmid
              generalize wc = wm at *
              clear wc
              have hml := Ed.midM_len (op := op) (last := last) (nm := nm) (x := x) (z := zr) hj
              obtain ⟨am, ham⟩ : ∃ am, Ed.midM op last m nm x zr j = am := ⟨_, rfl⟩
              rw [ham] at hed7 hrow7 hml
              have HAM := Lib.hid ham
              have hrl7 := hrow7.le
              have HE7 := Lib.hid hed7
              have HROW7 := Lib.hid hrow7
              clear v0 v1 v2 v3 v4 v5 v6 v7 vl a0 a1 a2 a3 a4 a5 a6 a7 of ol y0 y1 y2 y3 y4 y5 y6 y7 yxl hc1 hgl hrl hsz4 ho2 hed7 hrow7 ham HE HROW
              obtain ⟨v0, v1, v2, v3, v4, v5, v6, v7⟩ := HE7.out.v.eight
              have vl := HE7.out.v.lt
              obtain ⟨a0, a1, a2, a3, a4, a5, a6, a7⟩ := HE7.out.o.eight
              have of := HE7.out.o.frozen
              have ol := HE7.out.o.lt
              have hsz7 := HE7.out.size
              by_cases hjl : j = m.length
              · obtain rfl : j = m.length := hjl
                obtain ⟨z0, z1, z2, z3, z4, z5, z6, z7⟩ := HE7.out.z.eight
                have zf := HE7.out.z.frozen
                have zl := HE7.out.z.lt
                have HR := Lib.hid (show Ed.edit op (nm :: ns) (.mk 5 b n s l m) x = .ok (.mk 5 b n s [] am) by
                  rw [← HAM.out, Ed.mid_end]
                  cases last with
                  | true =>
                    obtain rfl : ns = [] := List.isEmpty_iff.1 HLAST.out
                    rw [Ed.edit_mem_last (HF2.out rfl), if_pos rfl]
                  | false =>
                    have hne : ns ≠ [] := fun h => by rw [h] at HLAST; exact absurd HLAST.out (by decide)
                    obtain ⟨y, hy⟩ := HF3.out rfl
                    obtain ⟨i, hi, hget⟩ := Ed.find_in hy
                    rw [Ed.edit_mem_more hne hy, HRJ.out rfl i _ hi hget rfl, if_neg (by decide)])
                go_wp2_with fail
                refine bodyPost_ret (results_row (l := [_, _, _, _, _, _, _, _]) rfl _ _ _ rfl (HE7.out.z.set8 _ _ _ _ _ _ _ _) Tryz.underlying28 rfl (by kernel_rfl)) rfl ?_
                refine ⟨below_set8 HE7.out.below (by have := HE7.out.e8; omega) _ _ _ _ _ _ _ _, .inl ⟨_, _, HR.out, rfl, ?_⟩⟩
                refine In.keep (on_keep (fun b' h _ => h.imp id (fun h => by omega)) (fun b' h _ => heap_set8 _ _ _ (by
                  have := HE7.out.e8
                  rcases h with h | h
                  · have := HS.out b' h; omega
                  · omega) _ _ _ _ _ _ _ _)) _ _ (In.mk' (slL_nil _ none) HROW7.out.slM (Nat.le_refl _) (Nat.zero_le _) hrl7.1 hrl7.2.1)
              · have hje : ((j : Int) == (m.length : Int)) = false := by rw [beq_eq_false_iff_ne]; omega
                have hlt : j < m.length := by omega
                have HOTH := Lib.hid (show m[j].1 ≠ nm → Ed.outM op last m nm x zr (j + 1) = am ++ [m[j]] from fun h => by rw [Ed.mid_other hlt h, HAM.out])
                have HOWNP := Lib.hid (show m[j].1 = nm → Ed.outM op last m nm x zr (j + 1) = am ++ (if last = true then [] else [(nm, zr)]) from fun h => by rw [Ed.mid_own hlt h, HAM.out])
                have HPS := Lib.hid (show Ed.hasP op last m nm (j + 1) = (hp || nw) by rw [Ed.hasP_succ hlt, HHP.out, HNW.out])
                have HFP := Lib.hid (show m[j].1 = nm → Js.find m nm = some m[j].2 from fun h => by
                  have := Js.find_at ((Ed.neat_iff _ _ _ _ _ _).1 HNE.out).2.2.2.2 (List.getElem?_eq_getElem hlt)
                  rwa [h] at this)
                have HUN := Lib.hid (show Ed.neat m[j].2 = true from ((Ed.neat_iff _ _ _ _ _ _).1 HNE.out).2.2.2.1 _ (List.getElem_mem hlt))
                have HUS := Lib.hid (show m[j].2.size ≤ 1000000 by have := sizeM_at (List.getElem_mem hlt); have h2 := HSZ.out; simp only [Vl.size] at h2; omega)
                have hgj := List.getElem?_eq_getElem hlt
                have HGJ := Lib.hid hgj
                obtain ⟨gl, ol', yl, rfl, hyl, hkl, hcl⟩ := HM.out j _ hgj
                clear hgj
                obtain ⟨k_1, k_2, k_3, k_4, k_5, k_6, k_7, k_8, k_9, k_a, k_b, k_c, rfl⟩ := In.cells hyl
                have hk9 := (le_below HE7.out.below) _ _ ((on_all w S) _ _ hkl)
                have hgk := World.block_lt_of_cell? _ _ hk9
                obtain ⟨e0, e1, e2, e3, e4, e5, e6, e7⟩ := (hcl.keep ((on_all w S).trans (le_below HE7.out.below))).eight
                have HYL := Lib.hid hyl
                generalize m[j] = p at *
                clear hyl hcl hkl
                have HB5 := Lib.hid ((Below.refl wm.heap.size wm).alloc (Nat.le_refl _) (.cells #[.string ⟨p.1.toArray⟩, .int .i64 k_1, .bool k_2, .bool k_3, .string ⟨k_4.toArray⟩, .int .i64 k_5, .string ⟨k_6.toArray⟩, .slice k_7 k_8 k_9, .slice k_a k_b k_c] 69))
                have HK5 := Lib.hid (Blk.new wm 69 #[.string ⟨p.1.toArray⟩, .int .i64 k_1, .bool k_2, .bool k_3, .string ⟨k_4.toArray⟩, .int .i64 k_5, .string ⟨k_6.toArray⟩, .slice k_7 k_8 k_9, .slice k_a k_b k_c])
                have HS50 := Lib.hid (show (wm.alloc (.cells #[.string ⟨p.1.toArray⟩, .int .i64 k_1, .bool k_2, .bool k_3, .string ⟨k_4.toArray⟩, .int .i64 k_5, .string ⟨k_6.toArray⟩, .slice k_7 k_8 k_9, .slice k_a k_b k_c] 69)).heap.size = wm.heap.size + 1 by simp)
                go_upto_region 43 with (fail)
                generalize wm.alloc (.cells #[.string ⟨p.1.toArray⟩, .int .i64 k_1, .bool k_2, .bool k_3, .string ⟨k_4.toArray⟩, .int .i64 k_5, .string ⟨k_6.toArray⟩, .slice k_7 k_8 k_9, .slice k_a k_b k_c] 69) = w5 at *
                obtain ⟨c0, c1, c2, c3, c4, c5, c6, c7, c8⟩ := HK5.out.nineM
                have cl := HK5.out.lt
                have hc1 := le_below (HE7.out.on HB5.out).below _ _ hc0
                have hgl := World.block_lt_of_cell? _ _ hc1
                by_cases hpn : p.1 = nm
                · have hpe : (p.1 == nm) = true := by simpa using hpn
                  have HPQ := Lib.hid hpn
                  clear hpn
                  cases last with
                  | true =>
                    exact absurd HMODE.out (by decide)
                  | false =>
                    have hne : ns ≠ [] := fun h => by rw [h] at HLAST; exact absurd HLAST.out (by decide)
                    have HEDN := Lib.hid (Ed.edit_mem_more (op := op) (b := b) (n := n) (s := s) (l := l) (x := x) hne (HFP.out HPQ.out))
                    have HZ2 := Lib.hid (show zr = (match Ed.edit op ns p.2 x with | .ok z => z | .bad _ => x) by rw [HZR.out, HFP.out HPQ.out]; rfl)
                    have HFZ := Lib.hid (show Ed.outM op false m nm x zr (j + 1) = am ++ [(nm, zr)] by rw [HOWNP.out HPQ.out, if_neg (by decide)])
                    go_quiet (fail)
                    go_upto_region 45 with (fail)
                    have HBD := Lib.hid (below_drewN HB5.out nq)
                    have HKD := Lib.hid (HK5.out.drewN nq)
                    have HSD := Lib.hid (show (w5.drewN nq).heap.size = wm.heap.size + 1 from HS50.out)
                    clear c0 c1 c2 c3 c4 c5 c6 c7 c8 cl v0 v1 v2 v3 v4 v5 v6 v7 vl a0 a1 a2 a3 a4 a5 a6 a7 of ol hc1 hgl hk9 hgk e0 e1 e2 e3 e4 e5 e6 e7
                    generalize w5.drewN nq = wd at *
                    obtain ⟨c0, c1, c2, c3, c4, c5, c6, c7, c8⟩ := HKD.out.nineM
                    have cl := HKD.out.lt
                    have hE5 := HE7.out.on HBD.out
                    obtain ⟨y0, y1, y2, y3, y4, y5, y6, y7⟩ := hE5.x.eight
                    have yxl := hE5.x.lt
                    have HE5 := Lib.hid hE5
                    clear hE5
                    have hs1 : (1 : Int) ≤ (ns.length : Int) + 1 := by omega
                    obtain ⟨AJ, hAJ⟩ : ∃ AJ, (if e = 1 then some (⟨g0, o0, none⟩ : Addr) else some ⟨g0, o0 + 1, none⟩) = AJ := ⟨_, rfl⟩
                    have HSJ := Lib.hid (show Strs w.cell? AJ ns by
                      intro i nn hi
                      have hil := (List.getElem?_eq_some_iff.1 hi).1
                      obtain ⟨g1, o1', h1, h2⟩ := HST.out (i + 1) nn (by simpa using hi)
                      injection h1 with h1
                      injection h1 with h1 h3 _
                      subst h1 h3
                      refine ⟨g0, o0 + 1, by rw [← hAJ, if_neg (by omega)], ?_⟩
                      rw [show o0 + (i + 1) = o0 + 1 + i by omega] at h2
                      exact h2)
                    have hb5w := HE5.out.below
                    have HREC := Lib.hid (fun W (h : Below wd.heap.size wd W) => ih hne S p.2 x _ _ AJ (e - 1) W (fun b' hb' => Nat.lt_of_lt_of_le (HS.out b' hb') (Nat.le_trans hb5w.size h.size)) (In.keep (on_keep (fun _ h _ => h) (fun b' _ h2 => (hb5w.trans (h.mono hb5w.size)).block b' h2)) _ _ HYL.out) (In.keep (on_keep (fun _ h _ => h) (fun b' _ h2 => (hb5w.trans (h.mono hb5w.size)).block b' h2)) _ _ HX.out) (HSJ.out.keep (le_below (hb5w.trans (h.mono hb5w.size)))) (by omega) (by unfold maxLen; omega) (fun q hq => HNS.out q (List.mem_cons_of_mem _ hq)) HUN.out HUS.out)
                    clear hb5w
                    obtain ⟨R7, hR7⟩ : ∃ R7, Ed.edit op ns p.2 x = R7 := ⟨_, rfl⟩
                    rw [hR7] at HREC HEDN HZ2
                    have HRR := Lib.hid hR7
                    clear hR7
                    go_cut [23, 24] from 156 to 156 (fun v23 v24 we => ∃ (p23 : Nat) (cs : Array Value) (cd : Nat) (z : Vl), v23 = .pointer (some ⟨p23, 0, none⟩) ∧ v24 = .int .i64 cd ∧ Blk we p23 28 cs ∧ z.In (we.on fun b => S b ∨ wd.heap.size ≤ b) (.agg cs) ∧ wd.heap.size ≤ p23 ∧ Below wd.heap.size wd we ∧ ((cd = 0 ∧ R7 = .ok z) ∨ (0 < cd ∧ cd ≤ 14 ∧ R7 = .bad cd)))
                    case first =>
                      have HS5 := Lib.hid (show ∀ b', S b' → b' < wd.heap.size from fun b' hb' => Nat.lt_of_lt_of_le (HS.out b' hb') HE5.out.below.size)
                      go_region_law (first | (go_simp; go_at_call 43; refine (HREC.out _ (by first | exact (Below.refl _ _).drew | exact ((Below.refl _ _).alloc (Nat.le_refl _) _).drew)).mono ?_; intro e9 w9 hp9; obtain ⟨y9, cd, z, rfl, hy, hb9, hres⟩ := hp9.shared; obtain ⟨j1, j2, j3, j4, j5, j6, j7, j8, j9, ja, jb, jc, rfl⟩ := In.cells hy; have HRES := Lib.hid hres; first | (have h8 : Blk w9 wd.heap.size 28 zeroC := (show Blk (World.drew (wd.alloc (.cells zeroC 28))) _ _ _ from Blk.new wd _ _).on hb9; have h8c := h8.eight; have h8f := h8.frozen; have h8l := h8.lt; have H8 := Lib.hid h8; have HY := Lib.hid (conv_one hy); have HB9 := Lib.hid ((((Below.refl wd.heap.size wd).alloc (Nat.le_refl _) (.cells zeroC 28)).drew).trans (hb9.mono (by simp))); clear h8) | (have HY := Lib.hid (conv_two hy); have HB9 := Lib.hid (((Below.refl wd.heap.size wd).drew).trans (show Below wd.heap.size wd.drew w9 from hb9))); have hsz9 := HB9.out.size; clear hy hb9 hres hp9))
                      all_goals
                        go_wp2_with fail
                        go_meet
                        case rel => first
                          | exact ⟨wd.heap.size, _, cd, z, rfl, rfl, H8.out.set8 _ _ _ _ _ _ _ _, fin_one HS5.out HY.out _ _ _ _ _ _ _ _, Nat.le_refl _, below_set8 HB9.out (Nat.le_refl _) _ _ _ _ _ _ _ _, HRES.out⟩
                          | exact ⟨w9.heap.size, _, cd, z, rfl, rfl, Blk.new _ _ _, fin_two HY.out _, hsz9, HB9.out.alloc hsz9 _, HRES.out⟩
                    case rest =>
                      clear c0 c1 c2 c3 c4 c5 c6 c7 c8 cl y0 y1 y2 y3 y4 y5 y6 y7 yxl
                      obtain ⟨p23, cs, cd, z, rfl, rfl, hb23, hz, hp23, hbw, hres⟩ := hcut
                      have hE7 := HE5.out.on hbw
                      have hK7 := HKD.out.on hbw
                      obtain ⟨j_1, j_2, j_3, j_4, j_5, j_6, j_7, j_8, j_9, j_a, j_b, j_c, hcs⟩ := In.cells hz
                      injection hcs with hcs
                      subst hcs
                      rcases hres with ⟨hc9, hres⟩ | ⟨hcd1, hcd2, hres⟩
                      · have hzz : zr = z := by rw [HZ2.out, hres]
                        subst hzz
                        have HR9 := Lib.hid (show Ed.edit op ns p.2 x = .ok zr by rw [HRR.out, hres])
                        clear hres
                        obtain ⟨j0, j1, j2, j3, j4, j5, j6, j7⟩ := hb23.eight
                        have jf := hb23.frozen
                        have jl := hb23.lt
                        obtain ⟨k0, k1, k2, k3, k4, k5, k6, k7, k8⟩ := hK7.nineM
                        have hkf := hK7.frozen
                        have hkl := hK7.lt
                        have hcd0 : ((cd : Int) != 0) = false := by rw [hc9]; rfl
                        clear hc9
                        have HB8 := Lib.hid (show Below wm.heap.size wm ((((((((wc.setCell ⟨wm.heap.size, 1, none⟩ (.int .i64 j_1)).setCell ⟨wm.heap.size, 2, none⟩ (.bool j_2)).setCell ⟨wm.heap.size, 3, none⟩ (.bool j_3)).setCell ⟨wm.heap.size, 4, none⟩ (.string ⟨j_4.toArray⟩)).setCell ⟨wm.heap.size, 5, none⟩ (.int .i64 j_5)).setCell ⟨wm.heap.size, 6, none⟩ (.string ⟨j_6.toArray⟩)).setCell ⟨wm.heap.size, 7, none⟩ (.slice j_7 j_8 j_9)).setCell ⟨wm.heap.size, 8, none⟩ (.slice j_a j_b j_c)) from below_setv (HBD.out.trans (hbw.mono HBD.out.size)) (Nat.le_refl _) _ _ _ _ _ _ _ _)
                        have HK8 := Lib.hid (show Blk ((((((((wc.setCell ⟨wm.heap.size, 1, none⟩ (.int .i64 j_1)).setCell ⟨wm.heap.size, 2, none⟩ (.bool j_2)).setCell ⟨wm.heap.size, 3, none⟩ (.bool j_3)).setCell ⟨wm.heap.size, 4, none⟩ (.string ⟨j_4.toArray⟩)).setCell ⟨wm.heap.size, 5, none⟩ (.int .i64 j_5)).setCell ⟨wm.heap.size, 6, none⟩ (.string ⟨j_6.toArray⟩)).setCell ⟨wm.heap.size, 7, none⟩ (.slice j_7 j_8 j_9)).setCell ⟨wm.heap.size, 8, none⟩ (.slice j_a j_b j_c)) wm.heap.size 69 #[.string ⟨p.1.toArray⟩, .int .i64 j_1, .bool j_2, .bool j_3, .string ⟨j_4.toArray⟩, .int .i64 j_5, .string ⟨j_6.toArray⟩, .slice j_7 j_8 j_9, .slice j_a j_b j_c] from hK7.setv _ _ _ _ _ _ _ _)
                        have HZ8 := Lib.hid (show zr.In (((((((((wc.setCell ⟨wm.heap.size, 1, none⟩ (.int .i64 j_1)).setCell ⟨wm.heap.size, 2, none⟩ (.bool j_2)).setCell ⟨wm.heap.size, 3, none⟩ (.bool j_3)).setCell ⟨wm.heap.size, 4, none⟩ (.string ⟨j_4.toArray⟩)).setCell ⟨wm.heap.size, 5, none⟩ (.int .i64 j_5)).setCell ⟨wm.heap.size, 6, none⟩ (.string ⟨j_6.toArray⟩)).setCell ⟨wm.heap.size, 7, none⟩ (.slice j_7 j_8 j_9)).setCell ⟨wm.heap.size, 8, none⟩ (.slice j_a j_b j_c)).on (OffS S (w.heap.size + 4) A7)) (.agg #[.int .i64 j_1, .bool j_2, .bool j_3, .string ⟨j_4.toArray⟩, .int .i64 j_5, .string ⟨j_6.toArray⟩, .slice j_7 j_8 j_9, .slice j_a j_b j_c]) from zv_on (fun b' hb' => Nat.lt_of_lt_of_le (HS.out b' hb') (by omega)) hsz7 (by rw [HSD.out]; omega) (fun ad h => ⟨(hrl7.2.2.2 ad h).1, (hrl7.2.2.2 ad h).2⟩) hz _ _ _ _ _ _ _ _)
                        clear hz hb23 hE7 hK7
                        go_upto_region 49 with (fail)
                        generalize ((((((((wc.setCell ⟨wm.heap.size, 1, none⟩ (.int .i64 j_1)).setCell ⟨wm.heap.size, 2, none⟩ (.bool j_2)).setCell ⟨wm.heap.size, 3, none⟩ (.bool j_3)).setCell ⟨wm.heap.size, 4, none⟩ (.string ⟨j_4.toArray⟩)).setCell ⟨wm.heap.size, 5, none⟩ (.int .i64 j_5)).setCell ⟨wm.heap.size, 6, none⟩ (.string ⟨j_6.toArray⟩)).setCell ⟨wm.heap.size, 7, none⟩ (.slice j_7 j_8 j_9)).setCell ⟨wm.heap.size, 8, none⟩ (.slice j_a j_b j_c)) = w8 at *
                        clear k0 k1 k2 k3 k4 k5 k6 k7 k8 hkf hkl j0 j1 j2 j3 j4 j5 j6 j7 jf jl
                        obtain ⟨c0, c1, c2, c3, c4, c5, c6, c7, c8⟩ := HK8.out.nineM
                        have cl := HK8.out.lt
                        obtain ⟨flat, hown, hone, hel⟩ := HROW7.out
                        have HOWN := Lib.hid hown
                        have HONE := Lib.hid hone
                        have HEL := Lib.hid hel
                        have HB6 := Lib.hid (HB8.out.alloc HB8.out.size (.cells #[.string ⟨p.1.toArray⟩, .int .i64 j_1, .bool j_2, .bool j_3, .string ⟨j_4.toArray⟩, .int .i64 j_5, .string ⟨j_6.toArray⟩, .slice j_7 j_8 j_9, .slice j_a j_b j_c] 69))
                        have HOWN5 := Lib.hid (own_keep hown (fun k _ hk => HB6.out.block k hk))
                        have HA5 := Lib.hid (show zr.In ((w8.alloc (.cells #[.string ⟨p.1.toArray⟩, .int .i64 j_1, .bool j_2, .bool j_3, .string ⟨j_4.toArray⟩, .int .i64 j_5, .string ⟨j_6.toArray⟩, .slice j_7 j_8 j_9, .slice j_a j_b j_c] 69)).on (OffS S (w.heap.size + 4) A7)) (.agg #[.int .i64 j_1, .bool j_2, .bool j_3, .string ⟨j_4.toArray⟩, .int .i64 j_5, .string ⟨j_6.toArray⟩, .slice j_7 j_8 j_9, .slice j_a j_b j_c]) from In.keep (on_keep (fun _ h _ => h) (fun b' _ h2 => Below.heap_alloc _ _ _ h2)) _ _ HZ8.out)
                        have HNEWS := Lib.hid (show ∀ (i : Nat) (u : Value), [.string ⟨p.1.toArray⟩, .int .i64 j_1, .bool j_2, .bool j_3, .string ⟨j_4.toArray⟩, .int .i64 j_5, .string ⟨j_6.toArray⟩, .slice j_7 j_8 j_9, .slice j_a j_b j_c][i]? = some u → (w8.alloc (.cells #[.string ⟨p.1.toArray⟩, .int .i64 j_1, .bool j_2, .bool j_3, .string ⟨j_4.toArray⟩, .int .i64 j_5, .string ⟨j_6.toArray⟩, .slice j_7 j_8 j_9, .slice j_a j_b j_c] 69)).cell? ((⟨w8.heap.size, 0, none⟩ : Addr).add i) = some u from World.news_of_block (heap_alloc_new w8 _))
                        obtain ⟨a0, a1, a2, a3, a4, a5, a6, a7⟩ := (HE7.out.o.on HB8.out).eight
                        have of := (HE7.out.o.on HB8.out).frozen
                        have ol := (HE7.out.o.on HB8.out).lt
                        have hws := HB8.out.size
                        clear hown hone hel
                        go_wp2_with (refine wpList_append_lies _ rfl _ _ _ rfl (w.heap.size + 4) 69 i0 _ 9 128 Tryz.underlying26 hi0 hz0 hz1 hz2 rfl (by omega) (.slice A7 am.length cp7) am.length flat rfl HOWN5.out ⟨w8.heap.size, 0, none⟩ 1 1 [.string ⟨p.1.toArray⟩, .int .i64 j_1, .bool j_2, .bool j_3, .string ⟨j_4.toArray⟩, .int .i64 j_5, .string ⟨j_6.toArray⟩, .slice j_7 j_8 j_9, .slice j_a j_b j_c] rfl rfl HNEWS.out (by simp [Value.oneCell']) (by omega) (by unfold maxLen; omega) (by omega) (by simp; omega) _ rfl ?_; intro g6 cap6 w6 hown6 hgrow6 hat6 hlt6; have HST := Lib.hid (mem_step HS.out HE7.out HOWN.out HONE.out HEL.out HB6.out HA5.out (by intro u hu; simp at hu; rcases hu with rfl | rfl | rfl | rfl | rfl | rfl | rfl | rfl <;> rfl) hown6 hgrow6 hat6); have q7 := (((HE7.out.on HB6.out).grown hgrow6 (fun k hk => own_new (fun ad h => (hrl7.2.2.2 ad h).1) hk)).o).cell 7; have qf := (((HE7.out.on HB6.out).grown hgrow6 (fun k hk => own_new (fun ad h => (hrl7.2.2.2 ad h).1) hk)).o).frozen; have ql := (((HE7.out.on HB6.out).grown hgrow6 (fun k hk => own_new (fun ad h => (hrl7.2.2.2 ad h).1) hk)).o).lt; clear hown6 hgrow6 hat6)
                        go_roundw
                        case rel => exact ⟨j + 1, some ⟨g6, 0, none⟩, cap6, by rw [HPS.out], by go_num, by omega, EMem.next (by rw [HFZ.out, HPQ.out]) HST.out, fun h i q hi hq hqn => by
                          by_cases hij : i = j
                          · subst hij
                            rw [HGJ.out] at hq
                            cases hq
                            exact HR9.out
                          · exact HRJ.out rfl i q (by omega) hq hqn⟩
                        case measure => simp [intOf]; omega
                      · exfalso
                        obtain ⟨y9, hy9, z9, hz9⟩ := HLO.out.2
                        rw [HFP.out HPQ.out] at hy9
                        cases hy9
                        rw [HRR.out, hres] at hz9
                        cases hz9
                · have hpe : (p.1 == nm) = false := by simpa using hpn
                  have HPQ := Lib.hid hpn
                  clear hpn
                  go_quiet (fail)
                  go_upto_region 49 with (fail)
                  have HBD := Lib.hid (below_drewN HB5.out nq)
                  have HKD := Lib.hid (HK5.out.drewN nq)
                  clear c0 c1 c2 c3 c4 c5 c6 c7 c8 cl v0 v1 v2 v3 v4 v5 v6 v7 vl a0 a1 a2 a3 a4 a5 a6 a7 of ol hc1 hgl hk9 hgk e0 e1 e2 e3 e4 e5 e6 e7
                  generalize w5.drewN nq = wd at *
                  obtain ⟨c0, c1, c2, c3, c4, c5, c6, c7, c8⟩ := HKD.out.nineM
                  have cl := HKD.out.lt
                  obtain ⟨flat, hown, hone, hel⟩ := HROW7.out
                  have HOWN := Lib.hid hown
                  have HONE := Lib.hid hone
                  have HEL := Lib.hid hel
                  have HB6 := Lib.hid (HBD.out.alloc HBD.out.size (.cells #[.string ⟨p.1.toArray⟩, .int .i64 k_1, .bool k_2, .bool k_3, .string ⟨k_4.toArray⟩, .int .i64 k_5, .string ⟨k_6.toArray⟩, .slice k_7 k_8 k_9, .slice k_a k_b k_c] 69))
                  have HOWN5 := Lib.hid (own_keep hown (fun k _ hk => HB6.out.block k hk))
                  have HA5 := Lib.hid (show p.2.In ((wd.alloc (.cells #[.string ⟨p.1.toArray⟩, .int .i64 k_1, .bool k_2, .bool k_3, .string ⟨k_4.toArray⟩, .int .i64 k_5, .string ⟨k_6.toArray⟩, .slice k_7 k_8 k_9, .slice k_a k_b k_c] 69)).on (OffS S (w.heap.size + 4) A7)) (.agg #[.int .i64 k_1, .bool k_2, .bool k_3, .string ⟨k_4.toArray⟩, .int .i64 k_5, .string ⟨k_6.toArray⟩, .slice k_7 k_8 k_9, .slice k_a k_b k_c]) from In.keep (off_of HS.out (by omega) (HE7.out.below.trans (HB6.out.mono HE7.out.below.size)) (fun ad h => (hrl7.2.2.2 ad h).1)) _ _ HYL.out)
                  have HNEWS := Lib.hid (show ∀ (i : Nat) (u : Value), [.string ⟨p.1.toArray⟩, .int .i64 k_1, .bool k_2, .bool k_3, .string ⟨k_4.toArray⟩, .int .i64 k_5, .string ⟨k_6.toArray⟩, .slice k_7 k_8 k_9, .slice k_a k_b k_c][i]? = some u → (wd.alloc (.cells #[.string ⟨p.1.toArray⟩, .int .i64 k_1, .bool k_2, .bool k_3, .string ⟨k_4.toArray⟩, .int .i64 k_5, .string ⟨k_6.toArray⟩, .slice k_7 k_8 k_9, .slice k_a k_b k_c] 69)).cell? ((⟨wd.heap.size, 0, none⟩ : Addr).add i) = some u from World.news_of_block (heap_alloc_new wd _))
                  obtain ⟨a0, a1, a2, a3, a4, a5, a6, a7⟩ := (HE7.out.o.on HBD.out).eight
                  have of := (HE7.out.o.on HBD.out).frozen
                  have ol := (HE7.out.o.on HBD.out).lt
                  have hws := HBD.out.size
                  clear hown hone hel
                  go_wp2_with (refine wpList_append_lies _ rfl _ _ _ rfl (w.heap.size + 4) 69 i0 _ 9 128 Tryz.underlying26 hi0 hz0 hz1 hz2 rfl (by omega) (.slice A7 am.length cp7) am.length flat rfl HOWN5.out ⟨wd.heap.size, 0, none⟩ 1 1 [.string ⟨p.1.toArray⟩, .int .i64 k_1, .bool k_2, .bool k_3, .string ⟨k_4.toArray⟩, .int .i64 k_5, .string ⟨k_6.toArray⟩, .slice k_7 k_8 k_9, .slice k_a k_b k_c] rfl rfl HNEWS.out (by simp [Value.oneCell']) (by omega) (by unfold maxLen; omega) (by omega) (by simp; omega) _ rfl ?_; intro g6 cap6 w6 hown6 hgrow6 hat6 hlt6; have HST := Lib.hid (mem_step HS.out HE7.out HOWN.out HONE.out HEL.out HB6.out HA5.out (by intro u hu; simp at hu; rcases hu with rfl | rfl | rfl | rfl | rfl | rfl | rfl | rfl <;> rfl) hown6 hgrow6 hat6); have q7 := (((HE7.out.on HB6.out).grown hgrow6 (fun k hk => own_new (fun ad h => (hrl7.2.2.2 ad h).1) hk)).o).cell 7; have qf := (((HE7.out.on HB6.out).grown hgrow6 (fun k hk => own_new (fun ad h => (hrl7.2.2.2 ad h).1) hk)).o).frozen; have ql := (((HE7.out.on HB6.out).grown hgrow6 (fun k hk => own_new (fun ad h => (hrl7.2.2.2 ad h).1) hk)).o).lt; clear hown6 hgrow6 hat6)
                  go_roundw
                  case rel => exact ⟨j + 1, some ⟨g6, 0, none⟩, cap6, by rw [HPS.out], by go_num, by omega, EMem.next (HOTH.out HPQ.out) HST.out, fun h i q hi hq hqn => by
                    by_cases hij : i = j
                    · subst hij
                      rw [HGJ.out] at hq
                      cases hq
                      exact absurd hqn HPQ.out
                    · exact HRJ.out h i q (by omega) hq hqn⟩
                  case measure => simp [intOf]; omega

end Go.Proofs.YtjjenpmahmbafaaGreatDoor

