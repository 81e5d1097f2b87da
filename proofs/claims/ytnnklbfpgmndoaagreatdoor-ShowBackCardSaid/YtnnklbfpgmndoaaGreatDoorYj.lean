/- The program's parse: items at members. (By gen_itemsm.py.) -/
import Derived.Test.YtnnklbfpgmndoaaGreatDoorNe
namespace Go.Proofs.YtnnklbfpgmndoaaGreatDoor
open Go.RowKit Js

/-- It hands a list of members back, in memory of its own. -/
def LWentM (rb mb : Nat) (s : ByteArray) (d : Nat) (w : World) (r : Ps.R (List Js.Mem)) (e : Ending) (w' : World) : Prop :=
  Sole2 rb mb w w' ∧ (match r with
    | .ok l u => (∃ A cp, e = .returned (.slice A l.length cp) ∧ RowM w' w.heap.size A cp l) ∧ Ps.Apart l ∧ ∃ a, Pr w' rb s a u d
    | .bad c l => Ami s c l e w')
/-- How far it has come. -/
def ItemsM (rb mb : Nat) (s : ByteArray) (d g : Nat) (RR : Ps.R (List Js.Mem)) (w : World) (k : Nat) (p : Value) (wr : World) : Prop :=
  ∃ a u A cp acc f', p = .slice A acc.length cp ∧ Pr wr rb s a u (d + 1) ∧ u.length = k ∧ acc.length + u.length ≤ s.size ∧ 3 * u.length ≤ f' + 1 ∧ f' ≤ g ∧ Ps.tailL (Ps.listL Ps.oneM 125 f' (d + 1)) 125 u acc = RR ∧ RowM wr w.heap.size A cp acc ∧ Sole2 rb mb w wr ∧
    SeenAt wr mb acc.length (Ps.has acc) ∧ Ps.Apart acc

/-- One member more. -/
theorem itemM_step {rb mb : Nat} {s : ByteArray} {a d : Nat} {u : List UInt8} {acc : List Js.Mem} {w W w5 w6 : World} {A : Option Addr} {cp : Nat} {flat : List Value} {key : List UInt8} {v : Vl} {k1 : Int} {q1 n1 : Bool} {g1 : List UInt8} {x1 : Int} {s1 : List UInt8} {A1 : Option Addr} {l1 c1 : Nat} {B1 : Option Addr} {m1 z1 : Nat} {g cap n : Nat} {S : List UInt8 → Bool} (hrb : rb < w.heap.size) (hmb : mb < w.heap.size) (hW : Sole2 rb mb w W)
    (hown : W.ownsRow w.heap.size 41 9 (.slice A acc.length cp) acc.length flat) (hone : ∀ u ∈ flat, u.oneCell' = true) (hel : ∀ i p, acc[i]? = some p → flat[i * 9]? = some (.string ⟨p.1.toArray⟩) ∧ ∃ x, p.2.In (W.on (Off w.heap.size A)) x ∧ ∀ (j : Nat) u, x.cells[j]? = some u → flat[i * 9 + 1 + j]? = some u)
    (hS5 : Sole2 rb mb W w5) (hin : v.In (w5.on (W.heap.size ≤ ·)) (vlV k1 q1 n1 g1 x1 s1 (.slice A1 l1 c1) (.slice B1 m1 z1))) (hP5 : Pr w5 rb s a u d) (hM5 : SeenAt w5 mb n S)
    (hown6 : w6.ownsRow w.heap.size 41 9 (.slice (some ⟨g, 0, none⟩) (acc.length + 1) cap) (acc.length + 1) (flat ++ [.string ⟨key.toArray⟩, .int .i64 k1, .bool q1, .bool n1, .string ⟨g1.toArray⟩, .int .i64 x1, .string ⟨s1.toArray⟩, .slice A1 l1 c1, .slice B1 m1 z1]))
    (hg6 : (w5.alloc (.cells #[.string ⟨key.toArray⟩, .int .i64 k1, .bool q1, .bool n1, .string ⟨g1.toArray⟩, .int .i64 x1, .string ⟨s1.toArray⟩, .slice A1 l1 c1, .slice B1 m1 z1] 41)).grownBy w6 (Value.slice A acc.length cp).ownBlock)
    (hat : (Value.slice A acc.length cp).ownBlock = some g ∨ g = (w5.alloc (.cells #[.string ⟨key.toArray⟩, .int .i64 k1, .bool q1, .bool n1, .string ⟨g1.toArray⟩, .int .i64 x1, .string ⟨s1.toArray⟩, .slice A1 l1 c1, .slice B1 m1 z1] 41)).heap.size) :
    RowM w6 w.heap.size (some ⟨g, 0, none⟩) cap (acc ++ [(key, v)]) ∧ Sole2 rb mb w w6 ∧ Pr w6 rb s a u d ∧ SeenAt w6 mb n S := by
  have hl := own_le hown
  have hob : ∀ k, k < w.heap.size → some k ≠ (Value.slice A acc.length cp).ownBlock := by
    intro k hk
    cases A with
    | none => simp [Value.ownBlock]
    | some ad => obtain ⟨g', rfl, h1, _⟩ := hl.2.2.2 ad rfl; simp only [Value.ownBlock, ne_eq, Option.some.injEq]; omega
  have hWs := hW.size
  have h5z := hS5.size
  have h6 : ∀ k, k < w.heap.size → w6.heap[k]? = w5.heap[k]? := fun k hk => by
    rw [hg6.block k (by simp; omega) (hob k hk), Below.heap_alloc _ _ _ (by omega)]
  refine ⟨RowM.more hWs hrb hmb hS5 hin (by simp [Value.oneCell']) hown hone hel hown6 hg6 hat, ?_, hP5.far (h6 _ hrb), hM5.far (h6 _ hmb)⟩
  have hS := hW.trans hS5
  refine ⟨hg6.os.trans hS.os, hg6.tape.trans hS.tape, hg6.output.trans hS.output, ?_, fun k hk hr hm => ?_⟩
  · have h1 := hg6.size; have h2 := hS.size; simp at h1; omega
  · rw [h6 _ hk]; exact hS.block k hk hr hm

theorem oneM_facts {f d : Nat} {t : List UInt8} {acc : List Js.Mem} {p : Js.Mem} {u : List UInt8} (hd : d ≤ 32) (h : Ps.oneM f d t acc = .ok p u) : u.length + 1 ≤ t.length ∧ Ps.has acc p.1 = false := by
  unfold Ps.oneM at h
  have hs := Ps.skip_len t
  cases hq : Ps.qtext (Ps.skip t) with
  | bad c l => rw [hq] at h; cases h
  | ok key t2 =>
    rw [hq] at h
    have h1 := (Ps.qtext_ok hq).1
    have hs2 := Ps.skip_len t2
    simp only at h
    split at h
    · cases h
    · rename_i hh
      cases h3 : Ps.skip t2 with
      | nil => rw [h3] at h; cases h
      | cons c t4 =>
        rw [h3] at h hs2
        simp only [List.length_cons] at hs2
        simp only at h
        split at h
        · have hT := Ps.itemV_told f d t4 hd
          cases hv : Ps.itemV f d t4 with
          | bad c l => rw [hv] at h; cases h
          | ok v u6 =>
            rw [hv] at h hT
            have := hT.2
            injection h with h5 h6
            subst h5 h6
            exact ⟨by omega, by simpa using hh⟩
        · cases h

set_option linter.unusedSimpArgs false in
set_option linter.unusedVariables false in
set_option maxRecDepth 100000 in
set_option maxHeartbeats 8000000 in
theorem itemsM_any (gg : Nat) (HVC : ∀ f', f' < gg → VCz f') {rb mb b1 b3 : Nat} {s : ByteArray} {a : Nat} {u : List UInt8} {d : Nat} {w : World} (h : Pr w rb s a (123 :: u) d) (hs : s.size ≤ 100000) (hT : TabsR rb w) (hd : d ≤ 32) (hfu : 3 * u.length + 3 ≤ gg + 1) (hM : SeenAt w mb 0 (fun _ => false)) (hrm : rb < mb)
    (hB1 : Blk w b1 68 #[.pointer (some ⟨rb, 0, none⟩)]) (hB3 : Blk w b3 101 #[.map (some mb)]) (h1r : b1 ≠ rb) (h1m : b1 ≠ mb) (h3r : b3 ≠ rb) (h3m : b3 ≠ mb) :
    Calls Tryz.prog 65 #[.pointer (some ⟨rb, 0, none⟩), .int .u8 125, .func (.func 66) #[] #[.pointer (some ⟨b1, 0, none⟩), .pointer (some ⟨b3, 0, none⟩)]] w (LWentM rb mb s d w (Ps.itemsR Ps.oneM 125 gg d u)) := by
  have H := Lib.hid h
  have hal := h.2.1
  have hrb := h.lt
  have hmb := hM.lt
  have HM := Lib.hid hM
  have HB1 := Lib.hid hB1
  have HB3 := Lib.hid hB3
  obtain ⟨c0, c1, c2⟩ := h.1.three
  have hf := h.1.frozen
  simp only [List.length_cons] at hal
  by_cases hdd : d = 32
  · subst hdd
    have HRQ := Lib.hid (show Ps.itemsR Ps.oneM 125 gg 32 u = .bad 3 (u.length + 1) by unfold Ps.itemsR; rw [if_pos rfl])
    have HF := Lib.hid (pfail_any s a 3 (u.length + 1) (a : Int) 3 rfl rfl hal w)
    clear h hT hM hB1 hB3
    go_enter Tryz.func65, Tryz.ntmps65
    go_wp2_with fail
    refine HF.out.mono ?_
    rintro e w5 ⟨⟨g9, p, h1, rfl, h2⟩, hb5⟩
    have HFI := Lib.hid (show LWentM rb mb s 32 w (Ps.itemsR Ps.oneM 125 gg 32 u) (.panicked [{ v := .iface 52 (.agg #[.iface 47 (.pointer (some ⟨g9, 0, none⟩))]), recovered := false }]) w5 by unfold LWentM; rw [HRQ.out]; exact ⟨.of_below hb5, g9, p, h1, rfl, h2⟩)
    clear h1 h2 hb5
    go_wp2_with fail
    exact ⟨rfl, HFI.out⟩
  · have hd1 : d < 32 := by omega
    have hne32 : ((d : Int) == 32) = false := by simp; omega
    have ha1 : a + 1 ≤ s.size := by omega
    have hsk := Ps.skip_len u
    obtain ⟨i0, hi0, hz0, hz1, hz2⟩ := infoM'
    have HP2 := Lib.hid (h.deep (d + 1)).step
    have HS2 := Lib.hid (((Sole.refl rb w).set 2 (.int .i64 ((d + 1 : Nat) : Int))).set 1 (.int .i64 ((a : Int) + 1)))
    have HN := Lib.hid (next_any HP2.out (by omega))
    have HT := Lib.hid hT
    clear h hT hM hB1 hB3
    go_enter Tryz.func65, Tryz.ntmps65
    go_wp2_with fail
    refine HN.out.mono ?_
    rintro e W9 ⟨rfl, ⟨a1, hR⟩, hS⟩
    have HSx := Lib.hid (show Sole2 rb mb w W9 from (HS2.out.trans hS).two)
    have HSW := Lib.hid HSx.out
    have HRx := Lib.hid hR
    have HT1 := Lib.hid (HT.out.sole2 HSx.out hrm)
    have HROWx := Lib.hid (RowM.nil W9 w.heap.size)
    have HAP := Lib.hid (show Ps.Apart [] from List.Pairwise.nil)
    have hszW : w.heap.size ≤ W9.heap.size := HSx.out.size
    by_cases h9 : (Ps.skip u).head? = some 125
    · have HRES := Lib.hid (show Ps.itemsR Ps.oneM 125 gg d u = (passR 125 (Ps.skip u)).map (fun _ => ([] : List Js.Mem)) by
        unfold Ps.itemsR
        rw [if_neg (by omega), if_pos h9, pass_head h9]; rfl)
      rw [hb_head h9, show (((125 : UInt8).toNat : Nat) : Int) = 125 from rfl]
      have HPS := Lib.hid (pass_any HRx.out (by omega) 125 125 rfl (by decide))
      clear hR hS h9 c0 c1 c2 hf
      go_wp2_with fail
      refine HPS.out.mono ?_
      cases hq : passR 125 (Ps.skip u) with
      | ok v u9 =>
        rintro e w9 ⟨hS9, ⟨x, rfl, hx⟩, a9, hP9⟩
        obtain rfl : x = .tuple #[] := hx
        have HS9 := Lib.hid (HSx.out.trans hS9.two)
        have HP9 := Lib.hid (hP9.deep d)
        have HROW9 := Lib.hid (HROWx.out.keep (fun k hk hlt => hS9.block k hlt (by omega)))
        have HRQ9 := Lib.hid (show Ps.itemsR Ps.oneM 125 gg d u = .ok [] u9 by rw [HRES.out, hq]; rfl)
        obtain ⟨c0, c1, c2⟩ := hP9.1.three
        have hf := hP9.1.frozen
        clear hS9 hP9 hq
        go_wp2_with fail
        go_ret
        unfold LWentM
        rw [HRQ9.out]
        exact ⟨HS9.out.set _ _, ⟨none, 0, rfl, HROW9.out.keep (fun k hk hlt => Below.heap_setCell _ _ _ _ (by show k ≠ rb; omega))⟩, HAP.out, a9, HP9.out⟩
      | bad c l =>
        rintro e w9 ⟨hS9, g9, p9, h1, rfl, h2⟩
        have HFI := Lib.hid (show LWentM rb mb s d w (Ps.itemsR Ps.oneM 125 gg d u) (.panicked [{ v := .iface 52 (.agg #[.iface 47 (.pointer (some ⟨g9, 0, none⟩))]), recovered := false }]) w9 by unfold LWentM; rw [HRES.out, hq]; exact ⟨HSx.out.trans hS9.two, g9, p9, h1, rfl, h2⟩)
        clear h1 h2 hS9 hq
        go_wp2_with fail
        exact ⟨rfl, HFI.out⟩
    · have hhb : (hb (Ps.skip u) != 125) = true := by rw [bne_iff_ne]; exact hb_not h9 (by decide)
      obtain ⟨g, rfl⟩ : ∃ g0, gg = g0 + 2 := ⟨gg - 2, by omega⟩
      have HMx := Lib.hid ((HM.out.far (((HS2.out.trans hS).block mb hmb (by omega)))).congr (fun k => (rfl : false = Ps.has [] k)))
      have HCV := Lib.hid (memclo_any g (HVC g (by omega)) (acc := []) HRx.out hs HT1.out (by omega) (by omega) HMx.out hrm (by simp) (HSx.out.blk HB1.out h1r h1m) (HSx.out.blk HB3.out h3r h3m))
      have HRES := Lib.hid (show Ps.itemsR Ps.oneM 125 (g + 2) d u = Ps.listL Ps.oneM 125 (g + 2) (d + 1) (Ps.skip u) [] by unfold Ps.itemsR; rw [if_neg (by omega), if_neg h9])
      generalize hA0 : (none : Option Addr) = A0
      have hown : W9.ownsRow w.heap.size 41 9 (.slice A0 0 0) 0 [] := ⟨by simp, .inl ⟨by rw [← hA0], rfl⟩⟩
      have HOWN := Lib.hid hown
      clear hA0
      have HONE := Lib.hid (show ∀ u ∈ ([] : List Value), u.oneCell' = true from fun u h => by cases h)
      have HEL := Lib.hid (show ∀ i p, ([] : List Js.Mem)[i]? = some p → ([] : List Value)[i * 9]? = some (.string ⟨p.1.toArray⟩) ∧ ∃ x, p.2.In (W9.on (Off w.heap.size A0)) x ∧ ∀ (j : Nat) u, x.cells[j]? = some u → ([] : List Value)[i * 9 + 1 + j]? = some u from fun i v h => by simp at h)
      clear hR hS h9 c0 c1 c2 hf hown
      generalize hb (Ps.skip u) = q at hhb ⊢
      go_wp2_with fail
      refine HCV.out.mono ?_
      cases hq : Ps.oneM (g + 1) (d + 1) (Ps.skip u) [] with
      | bad c l =>
        have HRB := Lib.hid (show Ps.itemsR Ps.oneM 125 (g + 2) d u = .bad c l by rw [HRES.out, Ps.listL, hq])
        rintro e w9 ⟨hS9, g9, p9, h1, rfl, h2⟩
        have HFI := Lib.hid (show LWentM rb mb s d w (Ps.itemsR Ps.oneM 125 (g + 2) d u) (.panicked [{ v := .iface 52 (.agg #[.iface 47 (.pointer (some ⟨g9, 0, none⟩))]), recovered := false }]) w9 by unfold LWentM; rw [HRB.out]; exact ⟨HSx.out.trans hS9, g9, p9, h1, rfl, h2⟩)
        clear h1 h2 hS9 hq
        go_wp2_with fail
        exact ⟨rfl, HFI.out⟩
      | ok pv u2 =>
        have HRT := Lib.hid (show Ps.itemsR Ps.oneM 125 (g + 2) d u = Ps.tailL (Ps.listL Ps.oneM 125 (g + 1) (d + 1)) 125 u2 [pv] by rw [HRES.out, Ps.listL, hq]; rfl)
        have hto := oneM_facts (by omega) hq
        have hto2 := hto.1
        rintro e w5 ⟨hS9, ⟨v0, v1, v2, v3, v4, v5, v6, v7, rfl, hx⟩, ⟨a5, hP5⟩, hM5⟩
        obtain ⟨k1, q1, n1, g1, x1, s1, A1, l1, c1', B1, m1, z1, rfl, rfl, rfl, rfl, rfl, rfl, rfl, rfl⟩ := agg8 hx
        obtain ⟨key, v⟩ := pv
        have HS5 := Lib.hid hS9
        have HP5 := Lib.hid hP5
        have HIN5 := Lib.hid hx
        have HM5 := Lib.hid hM5
        have HOWN5 := Lib.hid (own_keep (w' := w5.alloc (.cells #[.string ⟨key.toArray⟩, .int .i64 k1, .bool q1, .bool n1, .string ⟨g1.toArray⟩, .int .i64 x1, .string ⟨s1.toArray⟩, .slice A1 l1 c1', .slice B1 m1 z1] 41)) HOWN.out (fun k hk hlt => (Below.heap_alloc _ _ _ (by have := hS9.size; omega)).trans (hS9.block k hlt (by omega) (by omega))))
        have hsz5 : W9.heap.size ≤ w5.heap.size := hS9.size
        clear hS9 hP5 hx hM5 hto hq
        go_wp2_with (refine wpList_append_lies _ rfl _ _ _ rfl w.heap.size 41 i0 _ 9 128 Tryz.underlying26 hi0 hz0 hz1 hz2 rfl (by omega) (.slice A0 0 0) 0 [] rfl HOWN5.out ⟨w5.heap.size, 0, none⟩ 1 1 [.string ⟨key.toArray⟩, .int .i64 k1, .bool q1, .bool n1, .string ⟨g1.toArray⟩, .int .i64 x1, .string ⟨s1.toArray⟩, .slice A1 l1 c1', .slice B1 m1 z1] rfl rfl (World.news_of_block (heap_alloc_new w5 _)) (by simp [Value.oneCell']) (by omega) (by unfold maxLen; omega) (by omega) (by simp; omega) _ rfl ?_; intro g6 cap6 w6 hown6 hgrow6 hat6 hlt6; have HST := Lib.hid (itemM_step (acc := []) hrb hmb HSW.out HOWN.out HONE.out HEL.out HS5.out HIN5.out HP5.out HM5.out hown6 hgrow6 hat6); clear hown6 hgrow6 hat6 hlt6)
        obtain ⟨hrow6, hS6, hP6, hM6⟩ := HST.out
        have HROW6 := Lib.hid hrow6
        have HS6 := Lib.hid hS6
        have HP6 := Lib.hid hP6
        have HM6 := Lib.hid hM6
        clear hrow6 hS6 hP6 hM6
        go_loopg [7] u2.length (ItemsM rb mb s d (g + 1) (Ps.itemsR Ps.oneM 125 (g + 2) d u) w)
        case atStart => exact ⟨a5, u2, some ⟨g6, 0, none⟩, cap6, [(key, v)], g + 1, rfl, HP6.out, rfl, by simp only [List.length_singleton]; omega, by omega, Nat.le_refl _, HRT.out.symm, HROW6.out, HS6.out, HM6.out, List.pairwise_singleton _ _⟩
        case round =>
          obtain ⟨a7, t7, A, cp, acc, f', rfl, hR7, hk7, hal7, hf7, hg7, hres7, hrow7, hS7, hM7, hap7⟩ := hrel
          have HK7 := Lib.hid hk7
          have HN7 := Lib.hid (next_any hR7 (by omega))
          have HROW7 := Lib.hid hrow7
          have HS7 := Lib.hid hS7
          have HM7 := Lib.hid hM7
          have HAP := Lib.hid hap7
          have HRES7 := Lib.hid hres7
          have hsk7 := Ps.skip_len t7
          have hal8 : acc.length ≤ 100000 := by omega
          clear HOWN HEL HONE HOWN5 HIN5 HST HROW6 HS6 HP6 HM6 HM5 HMx HS5 HP5 HROWx HRx HSx HSW hk7 hR7 hrow7 hS7 hres7 hsz5 hszW hM7 hap7
          go_wp2_with fail
          refine HN7.out.mono ?_
          rintro e W9 ⟨rfl, ⟨a8, hR8⟩, hS8⟩
          have HSx := Lib.hid (HS7.out.trans hS8.two)
          have hszW : w.heap.size ≤ W9.heap.size := HSx.out.size
          have HROWx := Lib.hid (HROW7.out.keep (fun k hk hlt => hS8.block k hlt (by omega)))
          have HMx := Lib.hid (HM7.out.far (hS8.block mb HM7.out.lt (by omega)))
          by_cases h44 : (Ps.skip t7).head? = some 44
          · obtain ⟨r, hr⟩ : ∃ r, Ps.skip t7 = 44 :: r := by
              cases hq : Ps.skip t7 with
              | nil => rw [hq] at h44; cases h44
              | cons c r => rw [hq] at h44; cases h44; exact ⟨r, rfl⟩
            rw [hr] at hR8 hsk7
            simp only [List.length_cons] at hsk7
            rw [hr, show hb (44 :: r) = 44 from rfl]
            have ha8 : a8 + (r.length + 1) = s.size := by simpa using hR8.2.1
            obtain ⟨f', rfl⟩ : ∃ f0, f' = f0 + 2 := ⟨f' - 2, by omega⟩
            have HSW := Lib.hid (HSx.out.set 1 (.int .i64 ((a8 : Int) + 1)))
            have HT8 := Lib.hid (HT.out.sole2 HSW.out hrm)
            have HROW8 := Lib.hid (HROWx.out.keep (fun k hk hlt => Below.heap_setCell W9 ⟨rb, 1, none⟩ (.int .i64 ((a8 : Int) + 1)) k (by show k ≠ rb; omega)))
            have HM8 := Lib.hid (HMx.out.far (Below.heap_setCell W9 ⟨rb, 1, none⟩ (.int .i64 ((a8 : Int) + 1)) mb (by show mb ≠ rb; omega)))
            have hszs : (W9.setCell ⟨rb, 1, none⟩ (.int .i64 ((a8 : Int) + 1))).heap.size = W9.heap.size := by simp [World.setCell]
            have HCV := Lib.hid (memclo_any f' (HVC f' (by omega)) (acc := acc) hR8.step hs HT8.out (by omega) (by omega) HM8.out hrm (by omega) (HSW.out.blk HB1.out h1r h1m) (HSW.out.blk HB3.out h3r h3m))
            obtain ⟨c0, c1, c2⟩ := hR8.1.three
            have hf := hR8.1.frozen
            obtain ⟨flat, hown, hone, hel⟩ := HROW8.out
            have hacp := (own_le hown).1
            have HOWN := Lib.hid hown
            have HONE := Lib.hid hone
            have HEL := Lib.hid hel
            clear hown hone hel hR8 hS8 h44
            go_wp2_with fail
            refine HCV.out.mono ?_
            cases hq : Ps.oneM (f' + 1) (d + 1) r acc with
            | bad c l =>
              have HRB := Lib.hid (show Ps.itemsR Ps.oneM 125 (g + 2) d u = .bad c l by rw [← HRES7.out, tail_more _ _ _ _ _ hr, Ps.listL, hq])
              rintro e w9 ⟨hS9, g9, p9, h1, rfl, h2⟩
              have HFI := Lib.hid (show LWentM rb mb s d w (Ps.itemsR Ps.oneM 125 (g + 2) d u) (.panicked [{ v := .iface 52 (.agg #[.iface 47 (.pointer (some ⟨g9, 0, none⟩))]), recovered := false }]) w9 by unfold LWentM; rw [HRB.out]; exact ⟨HSW.out.trans hS9, g9, p9, h1, rfl, h2⟩)
              clear h1 h2 hS9 hq
              go_wp2_with fail
              exact ⟨rfl, HFI.out⟩
            | ok pv u3 =>
              have HRT7 := Lib.hid (show Ps.itemsR Ps.oneM 125 (g + 2) d u = Ps.tailL (Ps.listL Ps.oneM 125 (f' + 1) (d + 1)) 125 u3 (acc ++ [pv]) by rw [← HRES7.out, tail_more _ _ _ _ _ hr, Ps.listL, hq])
              have hto := oneM_facts (by omega) hq
              have hto3 := hto.1
              have HAP3 := Lib.hid (Ps.apart_snoc HAP.out hto.2)
              rintro e w5 ⟨hS9, ⟨v0, v1, v2, v3, v4, v5, v6, v7, rfl, hx⟩, ⟨a5, hP5⟩, hM5⟩
              obtain ⟨k1, q1, n1, g1, x1, s1, A1, l1, c1', B1, m1, z1, rfl, rfl, rfl, rfl, rfl, rfl, rfl, rfl⟩ := agg8 hx
              obtain ⟨key, v⟩ := pv
              have HS5 := Lib.hid hS9
              have HP5 := Lib.hid hP5
              have HIN5 := Lib.hid hx
              have HM5 := Lib.hid hM5
              have HOWN5 := Lib.hid (own_keep (w' := w5.alloc (.cells #[.string ⟨key.toArray⟩, .int .i64 k1, .bool q1, .bool n1, .string ⟨g1.toArray⟩, .int .i64 x1, .string ⟨s1.toArray⟩, .slice A1 l1 c1', .slice B1 m1 z1] 41)) HOWN.out (fun k hk hlt => (Below.heap_alloc _ _ _ (by have := hS9.size; omega)).trans (hS9.block k hlt (by omega) (by omega))))
              have hsz5 : (W9.setCell ⟨rb, 1, none⟩ (.int .i64 ((a8 : Int) + 1))).heap.size ≤ w5.heap.size := hS9.size
              rw [hszs] at hsz5
              clear hS9 hP5 hx hM5 hto hq c0 c1 c2 hf
              go_wp2_with (refine wpList_append_lies _ rfl _ _ _ rfl w.heap.size 41 i0 _ 9 128 Tryz.underlying26 hi0 hz0 hz1 hz2 rfl (by omega) (.slice A acc.length cp) acc.length flat rfl HOWN5.out ⟨w5.heap.size, 0, none⟩ 1 1 [.string ⟨key.toArray⟩, .int .i64 k1, .bool q1, .bool n1, .string ⟨g1.toArray⟩, .int .i64 x1, .string ⟨s1.toArray⟩, .slice A1 l1 c1', .slice B1 m1 z1] rfl rfl (World.news_of_block (heap_alloc_new w5 _)) (by simp [Value.oneCell']) (by omega) (by unfold maxLen; omega) (by omega) (by simp; omega) _ rfl ?_; intro g6 cap6 w6 hown6 hgrow6 hat6 hlt6; have HST := Lib.hid (itemM_step (acc := acc) hrb hmb HSW.out HOWN.out HONE.out HEL.out HS5.out HIN5.out HP5.out HM5.out hown6 hgrow6 hat6); clear hown6 hgrow6 hat6 hlt6)
              obtain ⟨hrow6, hS6, hP6, hM6⟩ := HST.out
              have HROW6 := Lib.hid hrow6
              have HS6 := Lib.hid hS6
              have HP6 := Lib.hid hP6
              have HM6 := Lib.hid hM6
              clear hrow6 hS6 hP6 hM6
              go_roundg u3.length
              case rel => exact ⟨a5, u3, some ⟨g6, 0, none⟩, cap6, acc ++ [(key, v)], f' + 1, by rw [List.length_append, List.length_singleton], HP6.out, rfl, by rw [List.length_append, List.length_singleton]; omega, by omega, by omega, HRT7.out.symm, HROW6.out, HS6.out, by rw [List.length_append, List.length_singleton]; exact HM6.out, HAP3.out⟩
              case measure => have := HK7.out; omega
          · have HRES := Lib.hid (show Ps.itemsR Ps.oneM 125 (g + 2) d u = (passR 125 (Ps.skip t7)).map (fun _ => acc) by rw [← HRES7.out, tail_end _ _ _ _ h44])
            have HRx := Lib.hid hR8
            have hne : ((hb (Ps.skip t7) : Int) == 44) = false := by rw [beq_eq_false_iff_ne]; exact hb_not h44 (by decide)
            generalize hb (Ps.skip t7) = q7 at hne ⊢
            have HPS := Lib.hid (pass_any HRx.out (by omega) 125 125 rfl (by decide))
            clear hR8 hS8 h44
            go_wp2_with fail
            refine HPS.out.mono ?_
            cases hq : passR 125 (Ps.skip t7) with
            | ok v u9 =>
              rintro e w9 ⟨hS9, ⟨x, rfl, hx⟩, a9, hP9⟩
              obtain rfl : x = .tuple #[] := hx
              have HS9 := Lib.hid (HSx.out.trans hS9.two)
              have HP9 := Lib.hid (hP9.deep d)
              have HROW9 := Lib.hid (HROWx.out.keep (fun k hk hlt => hS9.block k hlt (by omega)))
              have HRQ9 := Lib.hid (show Ps.itemsR Ps.oneM 125 (g + 2) d u = .ok acc u9 by rw [HRES.out, hq]; rfl)
              obtain ⟨c0, c1, c2⟩ := hP9.1.three
              have hf := hP9.1.frozen
              clear hS9 hP9 hq
              go_wp2_with fail
              go_ret
              unfold LWentM
              rw [HRQ9.out]
              exact ⟨HS9.out.set _ _, ⟨A, cp, rfl, HROW9.out.keep (fun k hk hlt => Below.heap_setCell _ _ _ _ (by show k ≠ rb; omega))⟩, HAP.out, a9, HP9.out⟩
            | bad c l =>
              rintro e w9 ⟨hS9, g9, p9, h1, rfl, h2⟩
              have HFI := Lib.hid (show LWentM rb mb s d w (Ps.itemsR Ps.oneM 125 (g + 2) d u) (.panicked [{ v := .iface 52 (.agg #[.iface 47 (.pointer (some ⟨g9, 0, none⟩))]), recovered := false }]) w9 by unfold LWentM; rw [HRES.out, hq]; exact ⟨HSx.out.trans hS9.two, g9, p9, h1, rfl, h2⟩)
              clear h1 h2 hS9 hq
              go_wp2_with fail
              exact ⟨rfl, HFI.out⟩

end Go.Proofs.YtnnklbfpgmndoaaGreatDoor

