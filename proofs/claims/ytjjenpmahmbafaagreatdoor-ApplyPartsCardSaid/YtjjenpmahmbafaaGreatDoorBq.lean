/- The walks of layer 9 (apply): the program's Apply. (By gen_bq.py.) -/
import Derived.Test.YtjjenpmahmbafaaGreatDoorBn
import Derived.Test.YtjjenpmahmbafaaGreatDoorBi
namespace Go.Proofs.YtjjenpmahmbafaaGreatDoor
open Go.RowKit Pt Js Oq

theorem Ap.much_ok {u z : Vl} {o : Opn} (h : Ap.doOp u o = .ok z) (hm : Ap.much z = 0) : Ap.done u o = .ok z := by
  unfold Ap.much at hm
  refine Ap.done_ok h ?_ ?_
  · rcases Nat.lt_or_ge 3000 z.size with k | k
    · rw [if_pos k] at hm; omega
    · exact k
  · split at hm
    · omega
    · split at hm <;> omega
theorem Ap.much_bad {u z : Vl} {o : Opn} {m : Nat} (h : Ap.doOp u o = .ok z) (hm : Ap.much z = m) (h0 : ¬ m = 0) : Ap.done u o = .bad m := by
  unfold Ap.much at hm
  subst hm
  split at h0
  · rename_i k; rw [if_pos k]; exact done_big h k
  · rename_i k
    split at h0
    · rename_i k2; rw [if_neg k, if_pos k2]; exact done_deep h k k2
    · exact absurd rfl h0
theorem Box9.okP {w wr : World} {S : Nat → Prop} {V : Array Value} (h : Box9 w S V wr) {r : Ap.Rs} {u : Vl} (hr : r = .ok u) {j_1 : Int} {j_2 j_3 : Bool} {j_4 : List UInt8} {j_5 : Int} {j_6 : List UInt8} {j_7 : Option Addr} {j_8 j_9 : Nat} {j_a : Option Addr} {j_b j_c : Nat} (hu : u.In (wr.on (Off9 w S)) (.agg #[.int .i64 j_1, .bool j_2, .bool j_3, .string ⟨j_4.toArray⟩, .int .i64 j_5, .string ⟨j_6.toArray⟩, .slice j_7 j_8 j_9, .slice j_a j_b j_c])) :
    ApplyE S r w (.returned (.tuple #[.agg #[.int .i64 j_1, .bool j_2, .bool j_3, .string ⟨j_4.toArray⟩, .int .i64 j_5, .string ⟨j_6.toArray⟩, .slice j_7 j_8 j_9, .slice j_a j_b j_c], .nilIface])) (set8 wr (w.heap.size + 1) (.int .i64 j_1) (.bool j_2) (.bool j_3) (.string ⟨j_4.toArray⟩) (.int .i64 j_5) (.string ⟨j_6.toArray⟩) (.slice j_7 j_8 j_9) (.slice j_a j_b j_c)) := by
  subst hr
  exact ⟨_, _, rfl, In.keep (h.leR (.int .i64 j_1) (.bool j_2) (.bool j_3) (.string ⟨j_4.toArray⟩) (.int .i64 j_5) (.string ⟨j_6.toArray⟩) (.slice j_7 j_8 j_9) (.slice j_a j_b j_c)) _ _ hu, .inl ⟨rfl, rfl, rfl⟩, below_set8 h.below (by omega) _ _ _ _ _ _ _ _⟩
theorem Box9.badP {w wr : World} {S : Nat → Prop} {V : Array Value} (h : Box9 w S V wr) {r : Ap.Rs} {c j : Nat} (hr : r = .bad c j) (hc : ¬ c = 0) {b : Nat} (hb : w.heap.size + 2 ≤ b) (hs : SpotAt wr b j c) :
    ApplyE S r w (.returned (.tuple #[.agg zeroC, spotV b])) (set8 wr (w.heap.size + 1) (.int .i64 0) (.bool false) (.bool false) (.string ⟨#[]⟩) (.int .i64 0) (.string ⟨#[]⟩) (.slice none 0 0) (.slice none 0 0)) := by
  subst hr
  have hcc : ∀ i, (set8 wr (w.heap.size + 1) (.int .i64 0) (.bool false) (.bool false) (.string ⟨#[]⟩) (.int .i64 0) (.string ⟨#[]⟩) (.slice none 0 0) (.slice none 0 0)).cell? ⟨b, i, none⟩ = wr.cell? ⟨b, i, none⟩ := fun i => World.cell?_of_block (heap_set8 _ _ _ (show b ≠ w.heap.size + 1 by omega) _ _ _ _ _ _ _ _)
  exact ⟨_, _, rfl, leaf_in _ 0 false Nm.Num.zero [], .inr ⟨by show ¬ (c : Int) = 0; omega, b, by omega, rfl, (hcc 0).trans hs.1, (hcc 1).trans hs.2⟩, below_set8 h.below (by omega) _ _ _ _ _ _ _ _⟩

def GoingP (w : World) (S : Nat → Prop) (l : List Opn) (v : Vl) (i : Value) (wr : World) : Prop :=
  ∃ (j : Nat) (u : Vl) (V : Array Value), i = .int .i64 j ∧ j ≤ l.length ∧ Box9 w S V wr ∧ u.In (wr.on (Off9 w S)) (.agg V) ∧ Ap.ValFit u ∧ Ap.applyAt v l 0 = Ap.applyAt u (l.drop j) j

set_option linter.unusedVariables false in
set_option linter.unusedSimpArgs false in
set_option maxRecDepth 100000 in
set_option maxHeartbeats 8000000 in
theorem apply_any : ApplyT := by
  intro S v l xv A e w h
  obtain ⟨k_1, k_2, k_3, k_4, k_5, k_6, k_7, k_8, k_9, k_a, k_b, k_c, rfl⟩ := In.cells h.hv
  have HL := Lib.hid h.hl
  have HO := Lib.hid h.ops
  have HERR := Lib.hid h.err
  have HE0 := Lib.hid (show Box9 w S #[.int .i64 k_1, .bool k_2, .bool k_3, .string ⟨k_4.toArray⟩, .int .i64 k_5, .string ⟨k_6.toArray⟩, .slice k_7 k_8 k_9, .slice k_a k_b k_c] ((w.alloc (.cells #[.int .i64 k_1, .bool k_2, .bool k_3, .string ⟨k_4.toArray⟩, .int .i64 k_5, .string ⟨k_6.toArray⟩, .slice k_7 k_8 k_9, .slice k_a k_b k_c] 28)).alloc (.cells zeroC 28)) from
    ⟨(Blk.new w 28 #[.int .i64 k_1, .bool k_2, .bool k_3, .string ⟨k_4.toArray⟩, .int .i64 k_5, .string ⟨k_6.toArray⟩, .slice k_7 k_8 k_9, .slice k_a k_b k_c]).alloc _, Blk.new2 w (.cells #[.int .i64 k_1, .bool k_2, .bool k_3, .string ⟨k_4.toArray⟩, .int .i64 k_5, .string ⟨k_6.toArray⟩, .slice k_7 k_8 k_9, .slice k_a k_b k_c] 28) 28 _, (((Below.refl w.heap.size w).alloc (Nat.le_refl _) _).alloc (by simp) _), h.hS⟩)
  have HX := Lib.hid (In.keep HE0.out.leS _ _ h.hv)
  have hval := h.val
  have hle := h.he
  have hm : e ≤ 9223372036854775807 := h.hm
  clear h
  go_enter Tryz.func8, Tryz.ntmps8
  go_upto_region 1 with (fail)
  generalize (w.alloc (.cells #[.int .i64 k_1, .bool k_2, .bool k_3, .string ⟨k_4.toArray⟩, .int .i64 k_5, .string ⟨k_6.toArray⟩, .slice k_7 k_8 k_9, .slice k_a k_b k_c] 28)).alloc (.cells zeroC 28) = w0 at *
  go_wp2_with fail
  go_loopw [12] (GoingP w S l v) (fun i _ => l.length - (intOf i).toNat)
  case atStart => exact ⟨0, v, _, rfl, by omega, HE0.out, HX.out, hval, by rw [List.drop_zero]⟩
  case round =>
    obtain ⟨j, u, V, rfl, hj, hbox, hu, huv, hap⟩ := hrel
    obtain ⟨k_1, k_2, k_3, k_4, k_5, k_6, k_7, k_8, k_9, k_a, k_b, k_c, hV⟩ := In.cells hu
    injection hV with hV
    subst hV
    have HG0 := Lib.hid hbox
    have HU := Lib.hid hu
    have HAP := Lib.hid hap
    have HUV := Lib.hid huv
    have hs0 := hbox.size
    clear hbox hu hap huv HE0 HX hval
    by_cases hlt : j < l.length
    · obtain ⟨g, o, y, rfl, hy, hc⟩ := HL.out j _ (List.getElem?_eq_getElem hlt)
      obtain ⟨y_o, y_p, y_q, y_r, y_s, y_t, y_u, y_1, y_2, y_3, y_4, y_5, y_6, y_7, y_8, y_9, y_a, y_b, y_c, rfl⟩ := OIn.cells hy
      have hcl := (on_all w S).trans (le_below HG0.out.below)
      have HC := Lib.hid (show CellsAt wr.cell? g (o + j * 11) (.agg #[.int .i64 y_o, .slice y_p y_q y_r, .slice y_s y_t y_u, .int .i64 y_1, .bool y_2, .bool y_3, .string ⟨y_4.toArray⟩, .int .i64 y_5, .string ⟨y_6.toArray⟩, .slice y_7 y_8 y_9, .slice y_a y_b y_c]) from hc.keep hcl)
      have hof := HO.out.fit _ (List.getElem_mem hlt)
      have hot := HO.out.tame _ (List.getElem_mem hlt)
      have HST := Lib.hid (fun z => apply_step (z := z) hlt HAP.out)
      have HFT := Lib.hid (fun z (h : Ap.done u (l[j]'hlt) = .ok z) => (Ap.done_fit HUV.out hof hot h).1)
      have HDN := Lib.hid (show ∀ z, Ap.doOp u (l[j]'hlt) = .ok z → z.size ≤ 8001 from fun z h => by have := (Ap.doOp_neat HUV.out.neat hof h).2; have := HUV.out.size; omega)
      have hj1 : (j : Int) < (l.length : Int) := by omega
      have hba := (Below.refl wr.heap.size wr).alloc (Nat.le_refl _) (.cells #[.int .i64 y_o, .slice y_p y_q y_r, .slice y_s y_t y_u, .int .i64 y_1, .bool y_2, .bool y_3, .string ⟨y_4.toArray⟩, .int .i64 y_5, .string ⟨y_6.toArray⟩, .slice y_7 y_8 y_9, .slice y_a y_b y_c] 52)
      have hdo := done_any (Old9 w S wr) u (l[j]'hlt) (.agg #[.int .i64 k_1, .bool k_2, .bool k_3, .string ⟨k_4.toArray⟩, .int .i64 k_5, .string ⟨k_6.toArray⟩, .slice k_7 k_8 k_9, .slice k_a k_b k_c]) (.agg #[.int .i64 y_o, .slice y_p y_q y_r, .slice y_s y_t y_u, .int .i64 y_1, .bool y_2, .bool y_3, .string ⟨y_4.toArray⟩, .int .i64 y_5, .string ⟨y_6.toArray⟩, .slice y_7 y_8 y_9, .slice y_a y_b y_c]) (wr.alloc (.cells #[.int .i64 y_o, .slice y_p y_q y_r, .slice y_s y_t y_u, .int .i64 y_1, .bool y_2, .bool y_3, .string ⟨y_4.toArray⟩, .int .i64 y_5, .string ⟨y_6.toArray⟩, .slice y_7 y_8 y_9, .slice y_a y_b y_c] 52)) (fun b hb2 => Nat.lt_of_lt_of_le hb2.2 hba.size) HUV.out hof hot
        (In.keep (on_keep (fun b h h2 => ⟨h, h2⟩) (fun b _ h2 => hba.block b h2)) _ _ HU.out)
        (OIn.keep (on_keep (fun b h h2 => ⟨.inl h, by have := HG0.out.below.size; omega⟩) (fun b _ h2 => (hba.block b (by have := HG0.out.below.size; omega)).trans (HG0.out.below.block b h2))) hy)
      have HDO := Lib.hid hdo
      have HB3 := Lib.hid (HG0.out.on hba)
      have HOB := Lib.hid (Blk.new wr 52 #[.int .i64 y_o, .slice y_p y_q y_r, .slice y_s y_t y_u, .int .i64 y_1, .bool y_2, .bool y_3, .string ⟨y_4.toArray⟩, .int .i64 y_5, .string ⟨y_6.toArray⟩, .slice y_7 y_8 y_9, .slice y_a y_b y_c])
      obtain ⟨e0, e1, e2, e3, e4, e5, e6, e7, e8, e9, e10⟩ := HC.out.eleven
      clear hc hy hcl hof hot hba hdo HUV HU HAP
      generalize l[j]'hlt = op at *
      go_upto_region 4 with (fail)
      clear e0 e1 e2 e3 e4 e5 e6 e7 e8 e9 e10 HC
      generalize wr.alloc (.cells #[.int .i64 y_o, .slice y_p y_q y_r, .slice y_s y_t y_u, .int .i64 y_1, .bool y_2, .bool y_3, .string ⟨y_4.toArray⟩, .int .i64 y_5, .string ⟨y_6.toArray⟩, .slice y_7 y_8 y_9, .slice y_a y_b y_c] 52) = w3 at *
      generalize wr.heap.size = go at *
      obtain ⟨rr, hrr⟩ : ∃ rr, Ap.doOp u op = rr := ⟨_, rfl⟩
      have HDR := Lib.hid hrr
      rw [hrr] at HDO
      clear hrr
      have hs3 := HB3.out.size
      obtain ⟨a0, a1, a2, a3, a4, a5, a6, a7⟩ := HB3.out.v.eight
      obtain ⟨o0, o1, o2, o3, o4, o5, o6, o7, o8, o9, o10⟩ := HOB.out.eleven
      go_wp2_with fail
      refine HDO.out.mono ?_
      rintro e4 w4 ⟨y4, rfl, hz4, hb4⟩
      obtain ⟨m_1, m_2, m_3, m_4, m_5, m_6, m_7, m_8, m_9, m_a, m_b, m_c, rfl⟩ := In.cells hz4
      have hb4a := hb4.alloc hb4.size (.cells #[.int .i64 m_1, .bool m_2, .bool m_3, .string ⟨m_4.toArray⟩, .int .i64 m_5, .string ⟨m_6.toArray⟩, .slice m_7 m_8 m_9, .slice m_a m_b m_c] 28)
      have HB5 := Lib.hid (HB3.out.on hb4a)
      have HK5 := Lib.hid (Blk.new w4 28 #[.int .i64 m_1, .bool m_2, .bool m_3, .string ⟨m_4.toArray⟩, .int .i64 m_5, .string ⟨m_6.toArray⟩, .slice m_7 m_8 m_9, .slice m_a m_b m_c])
      have HZ5 := Lib.hid (In.keep (on_keep (S' := Off9 w S) (fun b h _ => h.elim (fun k => k.1) (fun k => .inr (by omega))) (fun b _ h2 => Below.heap_alloc w4 (.cells #[.int .i64 m_1, .bool m_2, .bool m_3, .string ⟨m_4.toArray⟩, .int .i64 m_5, .string ⟨m_6.toArray⟩, .slice m_7 m_8 m_9, .slice m_a m_b m_c] 28) _ h2)) _ _ hz4)
      have hg8 : w.heap.size + 2 ≤ w4.heap.size := Nat.le_trans hs3 hb4.size
      clear hz4 hb4 hb4a HDO HB3 HOB a0 a1 a2 a3 a4 a5 a6 a7 o0 o1 o2 o3 o4 o5 o6 o7 o8 o9 o10
      go_upto_region 5 with (fail)
      generalize w4.alloc (.cells #[.int .i64 m_1, .bool m_2, .bool m_3, .string ⟨m_4.toArray⟩, .int .i64 m_5, .string ⟨m_6.toArray⟩, .slice m_7 m_8 m_9, .slice m_a m_b m_c] 28) = w5 at *
      generalize w4.heap.size = g8 at *
      cases rr with
      | bad c =>
        have hc0 : ¬ c = 0 := by have := Ap.doOp_code HDR.out; omega
        have hev : errV ((Ed.resC (.bad c) : Nat) : Int) = .iface 64 (.int .i64 c) := errV_pos hc0
        rw [hev]
        clear hev
        have HF := Lib.hid ((HST.out Ps.mkN).2 c (done_bad HDR.out))
        have HSP := Lib.hid (spot9_any j c w5 (HERR.out.on HB5.out.below))
        go_wp2_with fail
        refine HSP.out.mono ?_
        rintro e8 w8 ⟨b, rfl, hbl, hsa, hb8⟩
        have HB8 := Lib.hid (HB5.out.on hb8)
        have hs8 := HB5.out.size
        clear hb8 HSP
        obtain ⟨z0, z1, z2, z3, z4, z5, z6, z7⟩ := HB8.out.r.eight
        have zf := HB8.out.r.frozen
        have zl := HB8.out.r.lt
        go_wp2_with fail
        refine bodyPost_ret (results_row (l := [_, _, _, _, _, _, _, _]) rfl _ _ _ rfl (HB8.out.r.set8 _ _ _ _ _ _ _ _) Tryz.underlying28 rfl (by kernel_rfl)) rfl ?_
        exact HB8.out.badP HF.out hc0 (by omega) hsa
      | ok z =>
        have hev : errV ((Ed.resC (.ok z) : Nat) : Int) = .nilIface := rfl
        rw [hev]
        clear hev
        have hzs := HDN.out _ HDR.out
        have HMU := Lib.hid (tooMuch_any z _ w5 (In.keep (on_all _ _) _ _ HZ5.out) (by omega))
        obtain ⟨b0, b1, b2, b3, b4, b5, b6, b7⟩ := HK5.out.eight
        clear hzs
        go_wp2_with fail
        refine HMU.out.mono ?_
        rintro e6 w6 ⟨rfl, hb6⟩
        have HB6 := Lib.hid (HB5.out.on hb6)
        have HK6 := Lib.hid (HK5.out.on hb6)
        have HZ6 := Lib.hid (show z.In (w6.on (Off9 w S)) (.agg #[.int .i64 m_1, .bool m_2, .bool m_3, .string ⟨m_4.toArray⟩, .int .i64 m_5, .string ⟨m_6.toArray⟩, .slice m_7 m_8 m_9, .slice m_a m_b m_c]) from In.keep (on_keep (fun _ h _ => h) (fun b _ h2 => hb6.block b h2)) _ _ HZ5.out)
        clear hb6 HMU HB5 HK5 HZ5 b0 b1 b2 b3 b4 b5 b6 b7
        obtain ⟨c, hc⟩ : ∃ c, Ap.much z = c := ⟨_, rfl⟩
        rw [hc]
        by_cases hc0 : c = 0
        · have hdn := Ap.much_ok HDR.out (hc.trans hc0)
          have hft := HFT.out _ hdn
          have HF := Lib.hid ((HST.out z).1 hdn)
          have hev : errV (c : Int) = .nilIface := by rw [hc0]; rfl
          rw [hev]
          clear hev hc hc0 hdn
          obtain ⟨b0, b1, b2, b3, b4, b5, b6, b7⟩ := HK6.out.eight
          obtain ⟨a0, a1, a2, a3, a4, a5, a6, a7⟩ := HB6.out.v.eight
          have af := HB6.out.v.frozen
          have al := HB6.out.v.lt
          have HBN := Lib.hid (HB6.out.setv (.int .i64 m_1) (.bool m_2) (.bool m_3) (.string ⟨m_4.toArray⟩) (.int .i64 m_5) (.string ⟨m_6.toArray⟩) (.slice m_7 m_8 m_9) (.slice m_a m_b m_c))
          have HZN := Lib.hid (In.keep (HB6.out.leV (.int .i64 m_1) (.bool m_2) (.bool m_3) (.string ⟨m_4.toArray⟩) (.int .i64 m_5) (.string ⟨m_6.toArray⟩) (.slice m_7 m_8 m_9) (.slice m_a m_b m_c)) _ _ HZ6.out)
          go_wp2_with fail
          go_roundw
          case rel => exact ⟨j + 1, _, _, by go_num, by omega, HBN.out, HZN.out, hft, HF.out⟩
          case measure => simp [intOf]; omega
        · have hev : errV (c : Int) = .iface 64 (.int .i64 c) := errV_pos hc0
          rw [hev]
          clear hev
          have HF := Lib.hid ((HST.out z).2 c (Ap.much_bad HDR.out hc hc0))
          clear hc
          have HSP := Lib.hid (spot9_any j c w6 (HERR.out.on HB6.out.below))
          go_wp2_with fail
          refine HSP.out.mono ?_
          rintro e8 w8 ⟨b, rfl, hbl, hsa, hb8⟩
          have HB8 := Lib.hid (HB6.out.on hb8)
          have hs8 := HB6.out.size
          clear hb8 HSP
          obtain ⟨z0, z1, z2, z3, z4, z5, z6, z7⟩ := HB8.out.r.eight
          have zf := HB8.out.r.frozen
          have zl := HB8.out.r.lt
          go_wp2_with fail
          refine bodyPost_ret (results_row (l := [_, _, _, _, _, _, _, _]) rfl _ _ _ rfl (HB8.out.r.set8 _ _ _ _ _ _ _ _) Tryz.underlying28 rfl (by kernel_rfl)) rfl ?_
          exact HB8.out.badP HF.out hc0 (by omega) hsa
    · obtain rfl : j = l.length := by omega
      have HF := Lib.hid (apply_end HAP.out)
      obtain ⟨a0, a1, a2, a3, a4, a5, a6, a7⟩ := HG0.out.v.eight
      obtain ⟨z0, z1, z2, z3, z4, z5, z6, z7⟩ := HG0.out.r.eight
      have zf := HG0.out.r.frozen
      have zl := HG0.out.r.lt
      go_wp2_with fail
      refine bodyPost_ret (results_row (l := [_, _, _, _, _, _, _, _]) rfl _ _ _ rfl (HG0.out.r.set8 _ _ _ _ _ _ _ _) Tryz.underlying28 rfl (by kernel_rfl)) rfl ?_
      exact HG0.out.okP HF.out HU.out

end Go.Proofs.YtjjenpmahmbafaaGreatDoor

