/- The document's Link (layer 12). -/
import Derived.Test.YtolkfgikomminaaGreatDoorEa
import Derived.Test.YtolkfgikomminaaGreatDoorDh
namespace Go.Proofs.YtolkfgikomminaaGreatDoor
open Go.RowKit Js Pt

def LinkR (r : Cm.Res (List Cm.Node)) (w : World) (e : Ending) (w' : World) : Prop :=
 Below w.heap.size w w' ∧ ((∃ (a : List Cm.Node) (A : Option Addr) (cp : Nat), r = .ok a ∧ e = .returned (.tuple #[.slice A a.length cp, .int .i64 0, .string ⟨#[]⟩]) ∧ SlN w'.cell? A a ∧ a.length ≤ cp ∧ cp ≤ maxLen) ∨
  (∃ (c : Nat) (p : Cm.Names), r = .bad c p ∧ ¬ c = 0 ∧ c ≤ 14 ∧ e = .returned (.tuple #[.slice none 0 0, .int .i64 c, .string ⟨(text p).toArray⟩])))
def OutN (w : World) (A5 : Option Addr) (c5 : Nat) (os : List Cm.Node) (W : World) : Prop :=
 Below w.heap.size w W ∧ RowX ItN 39 4 (fun _ => False) W w.heap.size A5 c5 os
theorem OutN.on {w : World} {A5 : Option Addr} {c5 : Nat} {os : List Cm.Node} {W W' : World} (h : OutN w A5 c5 os W) (hb : Below W.heap.size W W') : OutN w A5 c5 os W' :=
 ⟨h.1.trans (hb.mono h.1.size), RowX.but (It := ItN) (fun h => ItN.mono h) h.2 (But.of hb) (fun _ _ k => k) (fun _ _ k => k)⟩
structure LkW (wi : World) (A5 : Option Addr) (ns : Array Value) (Ak : Option Addr) (ck : Nat) (ks : List Cm.Key) (W : World) : Prop where
 below : Below wi.heap.size wi W
 box : Blk W wi.heap.size 39 ns
 keys : RowX ItKey 43 10 (fun b => b = wi.heap.size ∨ Bk A5 b) W (wi.heap.size + 1) Ak ck ks
 old : ∀ b, Bk A5 b → b < wi.heap.size
section
variable {wi : World} {A5 : Option Addr} {ns : Array Value} {Ak : Option Addr} {ck : Nat} {ks : List Cm.Key} {W W' : World}
theorem LkW.keyAt (h : LkW wi A5 ns Ak ck ks W) {b : Nat} (e : Bk Ak b) : wi.heap.size < b ∧ b < W.heap.size ∧ ¬ (b = wi.heap.size ∨ Bk A5 b) := by
 obtain ⟨ad, e, rfl⟩ := e
 obtain ⟨g, rfl, hg, hl⟩ := h.keys.le.2.2 ad e
 refine ⟨hg, hl, ?_⟩
 rintro (k | k)
 ·simp only at k; omega
 ·have := h.old _ k; simp only at this; omega
theorem LkW.on (h : LkW wi A5 ns Ak ck ks W) (hb : Below W.heap.size W W') : LkW wi A5 ns Ak ck ks W' :=
 ⟨h.below.trans (hb.mono h.below.size), h.box.on hb, RowX.but (It := ItKey) (fun h => ItKey.mono h) h.keys (But.of hb) (fun ad e => (h.keyAt ⟨ad, e, rfl⟩).2.2) (fun _ _ k => k), h.old⟩
theorem LkW.push (h : LkW wi A5 ns Ak ck ks W) {k : Nat} (hk : ks.length = k) {Rn : Nat → Prop} {K : Cm.Key} {kcs : List Value} (hRn : ∀ b, Rn b → b < W.heap.size ∧ ¬ (b = wi.heap.size ∨ Bk A5 b) ∧ ∀ ad, Ak = some ad → b ≠ ad.block) (hit : ItKey (W.on Rn) K kcs) (h1 : ∀ u ∈ kcs, u.oneCell' = true) (h10 : kcs.length = 10) :
  ∃ flat, W.ownsRow (wi.heap.size + 1) 43 10 (.slice Ak k ck) k flat ∧ ∀ (w6 : World) (g cap : Nat), w6.ownsRow (wi.heap.size + 1) 43 10 (.slice (some ⟨g, 0, none⟩) (k + 1) cap) (k + 1) (flat ++ kcs) → W.grownBy w6 (Value.slice Ak k ck).ownBlock → ((Value.slice Ak k ck).ownBlock = some g ∨ g = W.heap.size) →
   LkW wi A5 ns (some ⟨g, 0, none⟩) cap (ks ++ [K]) w6 := by
 obtain ⟨flat, hown, hpush⟩ := RowX.push (It := ItKey) (fun h => ItKey.mono h) hk h.keys
 refine ⟨flat, hown, fun w6 g cap h6 hg hat => ?_⟩
 have hrow := hpush hit hRn h1 h10 h6 hg hat
 have hown2 : ∀ b, b < wi.heap.size + 1 → some b ≠ (Value.slice Ak k ck).ownBlock := fun b hb e => by
  cases Ak with
  | none => cases e
  | some ad =>
   have := (h.keyAt ⟨ad, rfl, rfl⟩).1
   have e2 : b = ad.block := by simpa [Value.ownBlock] using e
   omega
 have hws := h.box.lt
 exact ⟨⟨hg.os.trans h.below.os, hg.tape.trans h.below.tape, hg.output.trans h.below.output, Nat.le_trans h.below.size hg.size, fun b hb => (hg.block b (by omega) (hown2 b (by omega))).trans (h.below.block b hb)⟩, (hg.block _ hws (hown2 _ (by omega))).trans h.box, hrow, h.old⟩
end

theorem own_bk {A : Option Addr} {n c q : Nat} (h : (Value.slice A n c).ownBlock = some q) : Bk A q := by
 cases A with
 | none => cases h
 | some ad => exact ⟨ad, rfl, by simpa [Value.ownBlock] using h.symm⟩
def atI : Option Nat → Int
 | none => -1
 | some j => (j : Int)
theorem in_str {c : Cl} {v : Vl} {k : Int} {b neg : Bool} {dg : List UInt8} {ex : Int} {s : List UInt8} {lv mv : Value} (h : v.In c (.agg #[.int .i64 k, .bool b, .bool neg, .string ⟨dg.toArray⟩, .int .i64 ex, .string ⟨s.toArray⟩, lv, mv])) : Sh.strOf v = s := by
 obtain ⟨k', b', n', s', l', m'⟩ := v
 obtain ⟨A, e, B, d, he, _⟩ := In.form h
 unfold vlV at he
 simp at he
 exact he.2.2.2.2.2.1.symm

set_option linter.unusedVariables false in
set_option linter.unusedSimpArgs false in
set_option maxRecDepth 100000 in
set_option maxHeartbeats 9000000 in
theorem refLink_any (l : List Cm.Node) (A : Option Addr) (cA : Nat) (w : World) (hs : SlN w.cell? A l) (h1 : l.length ≤ cA) (h2 : cA ≤ maxLen) (hl : l.length ≤ 1000) (hin : Cm.Inside l) (hk : ∀ N ∈ l, N.keys.length ≤ 1000000) (ht : ∀ N ∈ l, (text N.at_).length ≤ 10000000000000) :
  Calls Tryz.prog 18 #[.slice A l.length cA] w (LinkR (Cm.link l) w) := by
 have HS := Lib.hid hs
 have HIN := Lib.hid hin
 have HKL := Lib.hid hk
 have HTL := Lib.hid ht
 unfold maxLen at h2
 clear hs hin hk ht
 go_enter Tryz.func18, Tryz.ntmps18
 go_wp2_with fail
 go_loopw [5, 6] (fun o5 i6 wr => ∃ (i : Nat) (A5 : Option Addr) (c5 : Nat) (os : List Cm.Node), o5 = .slice A5 i c5 ∧ i6 = .int .i64 i ∧ i ≤ l.length ∧ os.length = i ∧ OutN w A5 c5 os wr ∧ Cm.linkNodes l (l.take i) = .ok os) (fun _ i6 _ => l.length - (intOf i6).toNat)
 case atStart => exact ⟨0, none, 0, [], rfl, rfl, Nat.zero_le _, rfl, ⟨Below.refl _ _, RowX.nil _ _⟩, rfl⟩
 case round =>
  obtain ⟨i, A5, c5, os, rfl, rfl, hi, hos, hout, hlk⟩ := hrel
  have HOUT := Lib.hid hout
  have HLK := Lib.hid hlk
  have HOS := Lib.hid hos
  clear hout hlk hos
  by_cases hlt : i < l.length
  ·obtain ⟨g, o, cs, rfl, ⟨A2, c2, rfl, hk2, hl2, hm2⟩, hcN⟩ := HS.out i _ (List.getElem?_eq_getElem hlt)
   have e0 := (le_below HOUT.out.1) _ _ (hcN 0 _ rfl)
   have e1 := (le_below HOUT.out.1) _ _ (hcN 1 _ rfl)
   have e2 := (le_below HOUT.out.1) _ _ (hcN 2 _ rfl)
   have e3 := (le_below HOUT.out.1) _ _ (hcN 3 _ rfl)
   have hgl := World.block_lt_of_cell? _ _ e0
   have HKY := Lib.hid hk2
   have HLN := Lib.hid (Cm.linkNodes_next hlt HLK.out)
   have hkl := HKL.out _ (List.getElem_mem hlt)
   have htl := HTL.out _ (List.getElem_mem hlt)
   have hii : (i : Int) < (l.length : Int) := by omega
   simp only [Nat.add_zero] at e0
   clear hk2 hcN
   generalize l[i]'hlt = N at *
   obtain ⟨P, nall, npass, keys⟩ := N
   simp only at hl2 e0 e1 e2 e3 HKY HLN hkl htl
   unfold maxLen at hm2
   have HLW := Lib.hid (show LkW wr A5 #[.string ⟨(text P).toArray⟩, .bool nall, .bool npass, .slice A2 keys.length c2] none 0 [] (wr.alloc (.cells #[.string ⟨(text P).toArray⟩, .bool nall, .bool npass, .slice A2 keys.length c2] 39)) from
    ⟨(Below.refl _ _).alloc (Nat.le_refl _) _, Blk.new wr _ _, RowX.nil _ _, fun b hb => by
     obtain ⟨ad, e, rfl⟩ := hb
     obtain ⟨g, rfl, _, hl⟩ := HOUT.out.2.le.2.2 ad e
     exact hl⟩)
   go_upto_region 7 with (fail)
   generalize wr.alloc (.cells #[.string ⟨(text P).toArray⟩, .bool nall, .bool npass, .slice A2 keys.length c2] 39) = wb at *
   obtain ⟨wi, hwi⟩ : ∃ W, W = wr := ⟨_, rfl⟩
   subst hwi
   clear e0 e1 e2 e3 hgl
   go_wp2_with fail
   go_loopw [8, 9] (fun o8 i9 wr => ∃ (k : Nat) (Ak : Option Addr) (ck : Nat) (ks : List Cm.Key), o8 = .slice Ak k ck ∧ i9 = .int .i64 k ∧ k ≤ keys.length ∧ ks.length = k ∧ LkW wi A5 #[.string ⟨(text P).toArray⟩, .bool nall, .bool npass, .slice A2 keys.length c2] Ak ck ks wr ∧ Cm.linkKeys l P (keys.take k) = .ok ks) (fun _ i9 _ => keys.length - (intOf i9).toNat)
   case atStart => exact ⟨0, none, 0, [], rfl, rfl, Nat.zero_le _, rfl, HLW.out, rfl⟩
   case round =>
    obtain ⟨k, Ak, ck, ks, rfl, rfl, hkq, hks, hlw, hlks⟩ := hrel
    have HW2 := Lib.hid hlw
    have HLKS := Lib.hid hlks
    have HKS := Lib.hid hks
    have b3 := hlw.box.cell 3
    have b0 := hlw.box.cell 0
    have hbl := hlw.box.lt
    clear hlw hlks hks
    by_cases hkl2 : k < keys.length
    ·have HWR := Lib.hid (HOUT.out.1.trans (HW2.out.below.mono HOUT.out.1.size))
     obtain ⟨g3, o3, cs3, rfl, hi3, hc3⟩ := HKY.out k _ (List.getElem?_eq_getElem hkl2)
     obtain ⟨j_1, j_2, j_3, j_4, j_5, j_6, j_7, j_8, j_9, j_a, j_b, j_c, A4, c4, rfl, hv3, hk4, hl4, hm4⟩ := hi3.cells
     have d0 : wr.cell? ⟨g3, o3 + k * 10, none⟩ = _ := (le_below HWR.out) _ _ (hc3 0 _ rfl)
     have d1 : wr.cell? ⟨g3, o3 + k * 10 + 1, none⟩ = _ := (le_below HWR.out) _ _ (hc3 1 _ rfl)
     have d2 : wr.cell? ⟨g3, o3 + k * 10 + 2, none⟩ = _ := (le_below HWR.out) _ _ (hc3 2 _ rfl)
     have d3 : wr.cell? ⟨g3, o3 + k * 10 + 3, none⟩ = _ := (le_below HWR.out) _ _ (hc3 3 _ rfl)
     have d4 : wr.cell? ⟨g3, o3 + k * 10 + 4, none⟩ = _ := (le_below HWR.out) _ _ (hc3 4 _ rfl)
     have d5 : wr.cell? ⟨g3, o3 + k * 10 + 5, none⟩ = _ := (le_below HWR.out) _ _ (hc3 5 _ rfl)
     have d6 : wr.cell? ⟨g3, o3 + k * 10 + 6, none⟩ = _ := (le_below HWR.out) _ _ (hc3 6 _ rfl)
     have d7 : wr.cell? ⟨g3, o3 + k * 10 + 7, none⟩ = _ := (le_below HWR.out) _ _ (hc3 7 _ rfl)
     have d8 : wr.cell? ⟨g3, o3 + k * 10 + 8, none⟩ = _ := (le_below HWR.out) _ _ (hc3 8 _ rfl)
     have d9 : wr.cell? ⟨g3, o3 + k * 10 + 9, none⟩ = _ := (le_below HWR.out) _ _ (hc3 9 _ rfl)
     have HV3 := Lib.hid hv3
     have HK4 := Lib.hid hk4
     have HNX := Lib.hid (Cm.linkKeys_next hkl2 HLKS.out)
     have hkqi : (k : Int) < (keys.length : Int) := by omega
     have hgl3 := World.block_lt_of_cell? _ _ d0
     clear hi3 hc3 hv3 hk4
     generalize keys[k]'hkl2 = K at *
     obtain ⟨nm, kv, kids⟩ := K
     simp only at hl4 HV3 HK4 HNX d0 d9
     unfold maxLen at hm4
     have hb1 := (Below.refl wr.heap.size wr).alloc (Nat.le_refl _) (.cells #[.string ⟨nm.toArray⟩, .int .i64 j_1, .bool j_2, .bool j_3, .string ⟨j_4.toArray⟩, .int .i64 j_5, .string ⟨j_6.toArray⟩, .slice j_7 j_8 j_9, .slice j_a j_b j_c, .slice A4 kids.length c4] 43)
     have HWK := Lib.hid (HW2.out.on hb1)
     have HKB := Lib.hid (Blk.new wr 43 #[.string ⟨nm.toArray⟩, .int .i64 j_1, .bool j_2, .bool j_3, .string ⟨j_4.toArray⟩, .int .i64 j_5, .string ⟨j_6.toArray⟩, .slice j_7 j_8 j_9, .slice j_a j_b j_c, .slice A4 kids.length c4])
     have HWW := Lib.hid (HWR.out.trans (hb1.mono HWR.out.size))
     have HWI := Lib.hid (show w.heap.size ≤ wi.heap.size from HOUT.out.1.size)
     have HBK := Lib.hid hb1
     clear hb1
     go_upto_region 11 with (fail)
     generalize wr.alloc (.cells #[.string ⟨nm.toArray⟩, .int .i64 j_1, .bool j_2, .bool j_3, .string ⟨j_4.toArray⟩, .int .i64 j_5, .string ⟨j_6.toArray⟩, .slice j_7 j_8 j_9, .slice j_a j_b j_c, .slice A4 kids.length c4] 43) = wk at *
     obtain ⟨gk, hgk⟩ : ∃ gk, wr.heap.size = gk := ⟨_, rfl⟩
     rw [hgk] at HKB ⊢
     have HGK := Lib.hid (show wi.heap.size < gk by have := HW2.out.box.lt; omega)
     have HGE := Lib.hid hgk
     clear d0 d1 d2 d3 d4 d5 d6 d7 d8 d9 hgl3 b3 b0 hbl hgk
     obtain ⟨wr0, hwr0⟩ : ∃ W, W = wr := ⟨_, rfl⟩
     subst hwr0
     obtain ⟨z0, z1, z2, z3, z4, z5, z6, z7, z8, z9⟩ := HKB.out.ten
     have hzl := HKB.out.lt
     by_cases hnm : nm = [36, 114, 101, 102]
     ·have HSTR := Lib.hid (in_str HV3.out)
      have HLK1 := Lib.hid (show Cm.linkKey l P ⟨nm, kv, kids⟩ = match Cm.refAt l j_6 l.length with
       | none => .bad 12 (P ++ [Cm.kRef])
       | some q => .ok ⟨nm, kv, [([], q)]⟩ by
        unfold Cm.linkKey
        rw [if_pos (show (Cm.Key.mk nm kv kids).name = Cm.kRef from hnm), show Sh.strOf (Cm.Key.mk nm kv kids).v = j_6 from HSTR.out]
        rfl)
      have hnb : (nm == [36, 114, 101, 102]) = true := by simpa using hnm
      have HNM := Lib.hid hnm
      clear hnm HSTR
      obtain ⟨wk0, hwk0⟩ : ∃ W, W = wk := ⟨_, rfl⟩
      subst hwk0
      go_wp2_with fail
      go_loopw [11, 12] (fun a11 j12 wr => ∃ q : Nat, q ≤ l.length ∧ j12 = .int .i64 q ∧ a11 = .int .i64 (atI (Cm.refAt l j_6 q)) ∧ Below wk0.heap.size wk0 wr) (fun _ j12 _ => l.length - (intOf j12).toNat)
      case atStart => exact ⟨0, by omega, rfl, rfl, Below.refl _ _⟩
      case round =>
       obtain ⟨q, hq, rfl, rfl, hbq⟩ := hrel
       have HBQ := Lib.hid hbq
       have HKQ := Lib.hid (HKB.out.on hbq)
       clear hbq z0 z1 z2 z3 z4 z5 z6 z7 z8 z9 hzl
       obtain ⟨z0, z1, z2, z3, z4, z5, z6, z7, z8, z9⟩ := HKQ.out.ten
       have hzl := HKQ.out.lt
       by_cases hql : q < l.length
       ·obtain ⟨g7, o7, cs7, hA7, ⟨A7, c7, rfl, _, _, _⟩, hc7⟩ := HS.out q _ (List.getElem?_eq_getElem hql)
        injection hA7 with hA7
        injection hA7 with e71 e72 _
        subst e71 e72
        have y0 := (le_below (HWW.out.trans (HBQ.out.mono HWW.out.size))) _ _ (hc7 0 _ rfl)
        have hyl := World.block_lt_of_cell? _ _ y0
        have HRN := Lib.hid (Cm.refAt_next (s := j_6) (List.getElem?_eq_getElem hql))
        have htq := HTL.out _ (List.getElem_mem hql)
        have hqi : (q : Int) < (l.length : Int) := by omega
        simp only [Nat.add_zero] at y0
        clear hc7
        generalize text (l[q]'hql).at_ = tq at *
        have hcat : ∀ W, (Op.stringOp .add ⟨#[35]⟩ ⟨tq.toArray⟩).run Tryz.prog W = .ok (.string ⟨(35 :: tq).toArray⟩) W := fun W => cat_mk W [35] tq (by simp; omega)
        by_cases he : j_6 = 35 :: tq
        ·have heb : (j_6 == 35 :: tq) = true := by simpa using he
         have HE := Lib.hid (show Cm.refAt l j_6 (q + 1) = some q by rw [HRN.out, if_pos he])
         clear he
         go_upto_region 16 with (fail)
         go_quiet (fail)
         go_wp2_with fail
         go_roundw
         case rel => exact ⟨q + 1, by omega, by go_num, by rw [HE.out]; rfl, below_drewN HBQ.out _⟩
         case measure => simp [intOf]; omega
        ·have heb : (j_6 == 35 :: tq) = false := by simpa using he
         have HE := Lib.hid (show Cm.refAt l j_6 (q + 1) = Cm.refAt l j_6 q by rw [HRN.out, if_neg he])
         clear he
         go_upto_region 16 with (fail)
         go_quiet (fail)
         go_wp2_with fail
         go_roundw
         case rel => exact ⟨q + 1, by omega, by go_num, by rw [HE.out], below_drewN HBQ.out _⟩
         case measure => simp [intOf]; omega
       ·obtain rfl : q = l.length := by omega
        obtain ⟨at_, hat⟩ : ∃ a, Cm.refAt l j_6 l.length = a := ⟨_, rfl⟩
        rw [hat] at HLK1 ⊢
        have HAT := Lib.hid hat
        clear hat
        cases at_ with
        | none =>
         have HBD := Lib.hid (HLN.out.2 _ _ (HNX.out.2 _ _ HLK1.out))
         have HLB := Lib.hid (HW2.out.on (HBK.out.trans (HBQ.out.mono HBK.out.size)))
         have HWQ := Lib.hid (HOUT.out.1.trans (HLB.out.below.mono HOUT.out.1.size))
         rw [show atI none = -1 from rfl]
         go_upto_region 19 with (fail)
         refine wp_region_held_drew (S := fun W9 => Blk W9 wi.heap.size 39 #[.string ⟨(text P).toArray⟩, .bool nall, .bool npass, .slice (some ⟨g3, o3, none⟩) keys.length c2]) (by kernel_rfl) HLB.out.box (fun ht => ?_)
         have HD := Lib.hid (show Below w.heap.size w wr.drew from HWQ.out.trans ((Below.refl _ _).drew.mono HWQ.out.size))
         generalize wr.drew = wd at *
         refine wpAnyH_take (i := 0) (oi := ⟨some _, _, _, _, _, _⟩) (v := (.pointer (some ⟨wi.heap.size, 0, none⟩))) rfl (by kernel_rfl) (by kernel_rfl) (by kernel_rfl) (fun _ _ _ h => h) (Or.inl ⟨by rfl, ?_⟩) ht ?_
         ·intro W9 hSw
          go_simp
         try simp only [Act.put, List.setIfInBounds_toArray, List.set_cons_zero, List.set_cons_succ]
         refine wpAnyH_take (i := 1) (oi := ⟨some _, _, _, _, _, _⟩) (v := (.string ⟨(text P).toArray⟩)) rfl (by kernel_rfl) (by kernel_rfl) (by kernel_rfl) (fun _ _ _ h => h) (Or.inl ⟨by rfl, ?_⟩) ht ?_
         ·intro W9 hSw
          have b0 := hSw.cell 0
          have bl := hSw.lt
          go_simp
         try simp only [Act.put, List.setIfInBounds_toArray, List.set_cons_zero, List.set_cons_succ]
         refine wpAnyH_ready (rs := [2]) (by kernel_rfl) (by simp) ?_
         refine AllReadyH.cons (o := ⟨some _, _, _, _, _, _⟩) rfl (fun K hK => ?_) AllReadyH.nil
         go_simp
         refine via10 (K := K) (fun W9 => Blk W9 wi.heap.size 39 #[.string ⟨(text P).toArray⟩, .bool nall, .bool npass, .slice (some ⟨g3, o3, none⟩) keys.length c2] ∧ Strs W9.cell? (some ⟨wd.heap.size, 0, none⟩) [[36, 114, 101, 102]] ∧ Below w.heap.size w W9) ⟨Blk.alloc ht _, strs_one10 wd _ [36, 114, 101, 102], HD.out.alloc HD.out.size _⟩ ?_
         rintro w3 ⟨ht3, hst, hbw⟩
         have HST3 := Lib.hid hst
         have HB3 := Lib.hid hbw
         clear hst hbw ht
         refine hK.out _ _ ht3 (fun ht => ?_)
         clear hK K ht3
         try simp only [Act.put, List.setIfInBounds_toArray, List.set_cons_zero, List.set_cons_succ]
         refine wpAnyH_ready (rs := [3]) (by kernel_rfl) (by simp) ?_
         refine AllReadyH.cons (o := ⟨some _, _, _, _, _, _⟩) rfl (fun K hK => ?_) AllReadyH.nil
         go_simp
         refine (refPath_any [[36, 114, 101, 102]] (some ⟨wd.heap.size, 0, none⟩) 1 w3 HST3.out (Nat.le_refl _) (by unfold maxLen; omega) (by decide)).mono ?_
         rintro e4 w4 ⟨rfl, hb4⟩
         have hs4 : Blk w4 wi.heap.size 39 #[.string ⟨(text P).toArray⟩, .bool nall, .bool npass, .slice (some ⟨g3, o3, none⟩) keys.length c2] := Blk.on ht hb4
         have HB4 := Lib.hid (HB3.out.trans (hb4.mono HB3.out.size))
         clear hb4 ht
         have hrl : (text [[36, 114, 101, 102]]).length ≤ 100 := by decide
         have hcat : ∀ W, (Op.stringOp .add ⟨(text P).toArray⟩ ⟨(text [[36, 114, 101, 102]]).toArray⟩).run Tryz.prog W = .ok (.string ⟨(text (P ++ [[36, 114, 101, 102]])).toArray⟩) W := fun W => by rw [text_append]; exact cat_mk W _ _ (by omega)
         go_wp2_with fail
         refine hK.out _ _ hs4 (fun ht => ?_)
         clear hK K hs4
         try simp only [Act.put, List.setIfInBounds_toArray, List.set_cons_zero, List.set_cons_succ]
         refine wpAnyH_take (i := 4) (oi := ⟨some _, _, _, _, _, _⟩) (v := (.string ⟨(text (P ++ [[36, 114, 101, 102]])).toArray⟩)) rfl (by kernel_rfl) (by kernel_rfl) (by kernel_rfl) (fun _ _ _ h => h) (Or.inl ⟨by rfl, ?_⟩) ht ?_
         ·intro W9 hSw
          go_simp
         try simp only [Act.put, List.setIfInBounds_toArray, List.set_cons_zero, List.set_cons_succ]
         refine wpAnyH_take (i := 5) (oi := ⟨some _, _, _, _, _, _⟩) (v := (.slice none 0 0)) rfl (by kernel_rfl) (by kernel_rfl) (by kernel_rfl) (fun _ _ _ h => h) (Or.inl ⟨by rfl, ?_⟩) ht ?_
         ·intro W9 hSw
          go_simp
         try simp only [Act.put, List.setIfInBounds_toArray, List.set_cons_zero, List.set_cons_succ]
         refine wpAnyH_take (i := 6) (oi := ⟨some _, _, _, _, _, _⟩) (v := (.int .i64 12)) rfl (by kernel_rfl) (by kernel_rfl) (by kernel_rfl) (fun _ _ _ h => h) (Or.inl ⟨by rfl, ?_⟩) ht ?_
         ·intro W9 hSw
          go_simp
         try simp only [Act.put, List.setIfInBounds_toArray, List.set_cons_zero, List.set_cons_succ]
         refine wpAnyH_take (i := 7) (oi := ⟨some _, _, _, _, _, _⟩) (v := (.string ⟨(text (P ++ [[36, 114, 101, 102]])).toArray⟩)) rfl (by kernel_rfl) (by kernel_rfl) (by kernel_rfl) (fun _ _ _ h => h) (Or.inl ⟨by rfl, ?_⟩) ht ?_
         ·intro W9 hSw
          go_simp
         try simp only [Act.put, List.setIfInBounds_toArray, List.set_cons_zero, List.set_cons_succ]
         refine wpAnyH_done (by kernel_rfl) ?_ _
         clear ht hcat hrl
         go_wp2_with fail
         go_ret3
         exact ⟨HB4.out, .inr ⟨12, P ++ [[36, 114, 101, 102]], by unfold Cm.link; rw [HBD.out]; rfl, by decide, by decide, rfl⟩⟩
        | some q =>
         have HQL := Lib.hid (show q < l.length from (Cm.refAt_lt HAT.out).1)
         have HLX := Lib.hid (HNX.out.1 ⟨nm, kv, [([], q)]⟩ HLK1.out)
         rw [show atI (some q) = (q : Int) from rfl]
         obtain ⟨w8, hw8⟩ : ∃ W, W = (wr.setCell ⟨gk, 9, none⟩ (.slice (some ⟨wr.heap.size, 0, none⟩) 1 1)).alloc (.cells #[.string ⟨#[]⟩, .int .i64 (q : Int)] 78) := ⟨_, rfl⟩
         obtain ⟨g7, hg7⟩ : ∃ g, g = wr.heap.size := ⟨_, rfl⟩
         have hgk7 : gk < g7 := by rw [hg7]; exact hzl
         have hss : (wr.setCell ⟨gk, 9, none⟩ (.slice (some ⟨wr.heap.size, 0, none⟩) 1 1)).heap.size = g7 := by rw [hg7]; simp [World.setCell]
         have HB8 := Lib.hid (show Below wr0.heap.size wr0 w8 by
          rw [hw8]
          have h9 := (HBK.out.trans (HBQ.out.mono HBK.out.size)).setCell (p := ⟨gk, 9, none⟩) (by show wr0.heap.size ≤ gk; rw [HGE.out]; exact Nat.le_refl _) (.slice (some ⟨wr.heap.size, 0, none⟩) 1 1)
          exact h9.alloc h9.size _)
         have HKD8 := Lib.hid (show Blk w8 g7 78 #[.string ⟨#[]⟩, .int .i64 (q : Int)] by
          rw [hw8, ← hss]
          exact Blk.new _ _ _)
         have HKB8 := Lib.hid (show Blk w8 gk 43 #[.string ⟨nm.toArray⟩, .int .i64 j_1, .bool j_2, .bool j_3, .string ⟨j_4.toArray⟩, .int .i64 j_5, .string ⟨j_6.toArray⟩, .slice j_7 j_8 j_9, .slice j_a j_b j_c, .slice (some ⟨g7, 0, none⟩) 1 1] by
          rw [hw8, hg7]
          exact (Blk.setL (l := [.string ⟨nm.toArray⟩, .int .i64 j_1, .bool j_2, .bool j_3, .string ⟨j_4.toArray⟩, .int .i64 j_5, .string ⟨j_6.toArray⟩, .slice j_7 j_8 j_9, .slice j_a j_b j_c, .slice A4 kids.length c4]) HKQ.out 9 _).alloc _)
         have HW8 := Lib.hid hw8
         rw [← hg7] at HW8
         have HWR8 := Lib.hid (show Below w.heap.size w w8 from (HOUT.out.1.trans (HW2.out.below.mono HOUT.out.1.size)).trans (HB8.out.mono (Nat.le_trans HOUT.out.1.size HW2.out.below.size)))
         have HWQ := Lib.hid (HW2.out.on HB8.out)
         have hkfz := HKQ.out.frozen 9
         go_upto_region 21 with (fail)
         rw [← hg7, ← HW8.out]
         clear hw8 hss hg7 hkfz z0 z1 z2 z3 z4 z5 z6 z7 z8 z9 hzl
         obtain ⟨z0, z1, z2, z3, z4, z5, z6, z7, z8, z9⟩ := HKB8.out.ten
         have hzl := HKB8.out.lt
         have HIT := Lib.hid (show ItKey ((w8.alloc (.cells #[.string ⟨nm.toArray⟩, .int .i64 j_1, .bool j_2, .bool j_3, .string ⟨j_4.toArray⟩, .int .i64 j_5, .string ⟨j_6.toArray⟩, .slice j_7 j_8 j_9, .slice j_a j_b j_c, .slice (some ⟨g7, 0, none⟩) 1 1] 43)).on (fun b => b < w.heap.size ∨ b = g7)) ⟨nm, kv, [([], q)]⟩ [.string ⟨nm.toArray⟩, .int .i64 j_1, .bool j_2, .bool j_3, .string ⟨j_4.toArray⟩, .int .i64 j_5, .string ⟨j_6.toArray⟩, .slice j_7 j_8 j_9, .slice j_a j_b j_c, .slice (some ⟨g7, 0, none⟩) 1 1] from ⟨#[.int .i64 j_1, .bool j_2, .bool j_3, .string ⟨j_4.toArray⟩, .int .i64 j_5, .string ⟨j_6.toArray⟩, .slice j_7 j_8 j_9, .slice j_a j_b j_c], some ⟨g7, 0, none⟩, 1, rfl, In.keep (fun p u hp => on_some.2 ⟨.inl (World.block_lt_of_cell? _ _ hp), le_below (HWR8.out.alloc HWR8.out.size _) _ _ hp⟩) _ _ HV3.out, (fun i p hi => by
          have hi0 := (List.getElem?_eq_some_iff.1 hi).1
          obtain rfl : i = 0 := by simpa using hi0
          obtain rfl : (([] : List UInt8), q) = p := by simpa using hi
          exact ⟨g7, 0, rfl, on_some.2 ⟨.inr rfl, (HKD8.out.alloc _).cell 0⟩, on_some.2 ⟨.inr rfl, (HKD8.out.alloc _).cell 1⟩⟩), Nat.le_refl _, by unfold maxLen; omega⟩)
         obtain ⟨flat, hown, hpush⟩ := (HWQ.out.on ((Below.refl w8.heap.size w8).alloc (Nat.le_refl _) (.cells #[.string ⟨nm.toArray⟩, .int .i64 j_1, .bool j_2, .bool j_3, .string ⟨j_4.toArray⟩, .int .i64 j_5, .string ⟨j_6.toArray⟩, .slice j_7 j_8 j_9, .slice j_a j_b j_c, .slice (some ⟨g7, 0, none⟩) 1 1] 43))).push HKS.out (Rn := fun b => b < w.heap.size ∨ b = g7) (fun b hb => by
          have hwi := HWI.out; have hgk := HGK.out; have hg8 := HKD8.out.lt; have hsz := HWR8.out.size
          rcases hb with hb | hb
          ·refine ⟨by simp; omega, ?_, fun ad e q => ?_⟩
           ·rintro (q | q)
            ·omega
            ·obtain ⟨ad, e, rfl⟩ := q
             obtain ⟨g9, rfl, hg9, _⟩ := HOUT.out.2.le.2.2 ad e
             simp only at hb; omega
           ·have h3 := (HW2.out.keyAt ⟨ad, e, rfl⟩).1; omega
          ·subst hb
           refine ⟨by simp; omega, ?_, fun ad e q => ?_⟩
           ·rintro (q | q)
            ·omega
            ·have := HW2.out.old _ q; omega
           ·have h3 := (HW2.out.keyAt ⟨ad, e, rfl⟩).2.1; have h4 := HGE.out; omega) HIT.out (by simp [Value.oneCell']) rfl
         have HOWN := Lib.hid hown
         have HPUSH := Lib.hid hpush
         obtain ⟨i0, hi0, hz0, hz1, hz2⟩ := infoKey
         have hbs := HWQ.out.box.lt
         clear hown hpush HIT
         go_wp2_with (refine wpList_append_lies _ rfl _ _ _ rfl (wi.heap.size + 1) 43 i0 _ 10 152 Tryz.underlying37 hi0 hz0 hz1 hz2 rfl (by omega) (.slice Ak k ck) k flat rfl HOWN.out ⟨w8.heap.size, 0, none⟩ 1 1 [.string ⟨nm.toArray⟩, .int .i64 j_1, .bool j_2, .bool j_3, .string ⟨j_4.toArray⟩, .int .i64 j_5, .string ⟨j_6.toArray⟩, .slice j_7 j_8 j_9, .slice j_a j_b j_c, .slice (some ⟨g7, 0, none⟩) 1 1] rfl rfl (World.news_of_block (heap_alloc_new w8 _)) (by simp [Value.oneCell']) (by omega) (by unfold maxLen; omega) (by omega) (by simp; omega) _ rfl ?_; intro g6 cap6 w8 hown6 hgrow6 hat6 hlt6; have HST := Lib.hid (HPUSH.out _ _ _ hown6 hgrow6 hat6); clear hown6 hgrow6 hat6)
         go_roundw
         case rel => exact ⟨k + 1, some ⟨g6, 0, none⟩, cap6, ks ++ [⟨nm, kv, [([], q)]⟩], rfl, by go_num, by omega, by rw [List.length_append, HKS.out]; rfl, HST.out, HLX.out⟩
         case measure => simp [intOf]; omega
     ·have hnb : (nm == [36, 114, 101, 102]) = false := by simpa using hnm
      have HLX := Lib.hid (HNX.out.1 ⟨nm, kv, kids⟩ (by unfold Cm.linkKey; exact if_neg hnm))
      clear hnm HNX
      have HIT := Lib.hid (show ItKey ((wk.alloc (.cells #[.string ⟨nm.toArray⟩, .int .i64 j_1, .bool j_2, .bool j_3, .string ⟨j_4.toArray⟩, .int .i64 j_5, .string ⟨j_6.toArray⟩, .slice j_7 j_8 j_9, .slice j_a j_b j_c, .slice A4 kids.length c4] 43)).on (fun b => b < w.heap.size)) ⟨nm, kv, kids⟩ [.string ⟨nm.toArray⟩, .int .i64 j_1, .bool j_2, .bool j_3, .string ⟨j_4.toArray⟩, .int .i64 j_5, .string ⟨j_6.toArray⟩, .slice j_7 j_8 j_9, .slice j_a j_b j_c, .slice A4 kids.length c4] from ⟨#[.int .i64 j_1, .bool j_2, .bool j_3, .string ⟨j_4.toArray⟩, .int .i64 j_5, .string ⟨j_6.toArray⟩, .slice j_7 j_8 j_9, .slice j_a j_b j_c], A4, c4, rfl, In.keep (fun p u hp => on_some.2 ⟨World.block_lt_of_cell? _ _ hp, le_below (HWW.out.alloc HWW.out.size _) _ _ hp⟩) _ _ HV3.out, HK4.out.keep (fun p u hp => on_some.2 ⟨World.block_lt_of_cell? _ _ hp, le_below (HWW.out.alloc HWW.out.size _) _ _ hp⟩), hl4, by unfold maxLen; omega⟩)
      obtain ⟨flat, hown, hpush⟩ := (HWK.out.on ((Below.refl wk.heap.size wk).alloc (Nat.le_refl _) (.cells #[.string ⟨nm.toArray⟩, .int .i64 j_1, .bool j_2, .bool j_3, .string ⟨j_4.toArray⟩, .int .i64 j_5, .string ⟨j_6.toArray⟩, .slice j_7 j_8 j_9, .slice j_a j_b j_c, .slice A4 kids.length c4] 43))).push HKS.out (Rn := fun b => b < w.heap.size) (fun b hb => ⟨by have := HWW.out.size; have h2 : b < w.heap.size := hb; simp; omega, by rintro (q | q); (have := HWI.out; have h2 : b < w.heap.size := hb; omega); (obtain ⟨ad, e, rfl⟩ := q; obtain ⟨g9, rfl, hg9, _⟩ := HOUT.out.2.le.2.2 ad e; have h2 : g9 < w.heap.size := hb; omega), fun ad e q => by have h3 := (HWK.out.keyAt ⟨ad, e, rfl⟩).1; have h2 : b < w.heap.size := hb; have := HWI.out; omega⟩) HIT.out (by simp [Value.oneCell']) rfl
      have HOWN := Lib.hid hown
      have HPUSH := Lib.hid hpush
      obtain ⟨i0, hi0, hz0, hz1, hz2⟩ := infoKey
      have hbs := HWK.out.box.lt
      clear hown hpush HIT
      go_wp2_with (refine wpList_append_lies _ rfl _ _ _ rfl (wi.heap.size + 1) 43 i0 _ 10 152 Tryz.underlying37 hi0 hz0 hz1 hz2 rfl (by omega) (.slice Ak k ck) k flat rfl HOWN.out ⟨wk.heap.size, 0, none⟩ 1 1 [.string ⟨nm.toArray⟩, .int .i64 j_1, .bool j_2, .bool j_3, .string ⟨j_4.toArray⟩, .int .i64 j_5, .string ⟨j_6.toArray⟩, .slice j_7 j_8 j_9, .slice j_a j_b j_c, .slice A4 kids.length c4] rfl rfl (World.news_of_block (heap_alloc_new wk _)) (by simp [Value.oneCell']) (by omega) (by unfold maxLen; omega) (by omega) (by simp; omega) _ rfl ?_; intro g6 cap6 w8 hown6 hgrow6 hat6 hlt6; have HST := Lib.hid (HPUSH.out _ _ _ hown6 hgrow6 hat6); clear hown6 hgrow6 hat6)
      go_roundw
      case rel => exact ⟨k + 1, some ⟨g6, 0, none⟩, cap6, ks ++ [⟨nm, kv, kids⟩], rfl, by go_num, by omega, by rw [List.length_append, HKS.out]; rfl, HST.out, HLX.out⟩
      case measure => simp [intOf]; omega
    ·obtain rfl : k = keys.length := by omega
     have HLKF := Lib.hid (show Cm.linkKeys l P keys = .ok ks by have := HLKS.out; rwa [List.take_length] at this)
     obtain ⟨Rn, hRn, hsl⟩ := RowX.slKey HW2.out.keys (fun ad e => (HW2.out.keyAt ⟨ad, e, rfl⟩).2.2)
     have hkl5 := HW2.out.keys.le
     have hbf := HW2.out.box.frozen 3
     obtain ⟨w3, hw3⟩ : ∃ W, W = wr.setCell ⟨wi.heap.size, 3, none⟩ (.slice Ak keys.length ck) := ⟨_, rfl⟩
     have HB3 := Lib.hid (show Blk w3 wi.heap.size 39 #[.string ⟨(text P).toArray⟩, .bool nall, .bool npass, .slice Ak keys.length ck] by
      rw [hw3]; exact Blk.setL (l := [.string ⟨(text P).toArray⟩, .bool nall, .bool npass, .slice A2 keys.length c2]) HW2.out.box 3 _)
     have HW3 := Lib.hid hw3
     have HO3 := Lib.hid (show OutN w A5 c5 os w3 from HOUT.out.on (by rw [hw3]; exact HW2.out.below.setCell (p := ⟨wi.heap.size, 3, none⟩) (Nat.le_refl _) _))
     have HO4 := Lib.hid (HO3.out.on ((Below.refl w3.heap.size w3).alloc (Nat.le_refl _) (.cells #[.string ⟨(text P).toArray⟩, .bool nall, .bool npass, .slice Ak keys.length ck] 39)))
     obtain ⟨flat, hown, hpush⟩ := RowX.push (It := ItN) (fun h => ItN.mono h) HOS.out HO4.out.2
     have HIT := Lib.hid (show ItN ((w3.alloc (.cells #[.string ⟨(text P).toArray⟩, .bool nall, .bool npass, .slice Ak keys.length ck] 39)).on Rn) ⟨P, nall, npass, ks⟩ [.string ⟨(text P).toArray⟩, .bool nall, .bool npass, .slice Ak keys.length ck] from ⟨Ak, ck, by rw [show (Cm.Node.mk P nall npass ks).keys.length = keys.length from HKS.out], hsl.keep (on_keep (fun b h _ => h) (fun b hb h2 => by
      rw [Below.heap_alloc _ _ _ (by rw [hw3]; simpa [World.setCell] using h2), hw3]
      exact Below.heap_setCell wr ⟨wi.heap.size, 3, none⟩ _ b (fun e => (hRn b hb).2 (.inl e)))), hkl5.1, hkl5.2.1⟩)
     have hss3 : w3.heap.size = wr.heap.size := by rw [hw3]; simp [World.setCell]
     have HRN := Lib.hid (show ∀ b, Rn b → b < (w3.alloc (.cells #[.string ⟨(text P).toArray⟩, .bool nall, .bool npass, .slice Ak keys.length ck] 39)).heap.size ∧ ¬ False ∧ ∀ ad, A5 = some ad → b ≠ ad.block from fun b hb => ⟨by have := (hRn b hb).1; simp; omega, fun k => k, fun ad e q => (hRn b hb).2 (.inr ⟨ad, e, q⟩)⟩)
     have HOWN := Lib.hid hown
     have HPU := Lib.hid (fun w6 g cap h6 hg hat => hpush (w6 := w6) (g := g) (cap := cap) HIT.out HRN.out (by simp [Value.oneCell']) rfl h6 hg hat)
     have hgw := HOUT.out.1.size
     have hwl := HW2.out.box.lt
     obtain ⟨i0, hi0, hz0, hz1, hz2⟩ := infoNode
     clear hpush hown hsl hRn hw3 hss3 hkl5
     go_upto_region 23 with (fail)
     rw [← HW3.out]
     clear b3 b0
     have b0 := HB3.out.cell 0
     have b1 := HB3.out.cell 1
     have b2 := HB3.out.cell 2
     have b3 := HB3.out.cell 3
     have hb3l := HB3.out.lt
     go_wp2_with (refine wpList_append_lies _ rfl _ _ _ rfl w.heap.size 39 i0 _ 4 48 Tryz.underlying23 hi0 hz0 hz1 hz2 rfl (by omega) (.slice A5 i c5) i flat rfl HOWN.out ⟨w3.heap.size, 0, none⟩ 1 1 [.string ⟨(text P).toArray⟩, .bool nall, .bool npass, .slice Ak keys.length ck] rfl rfl (World.news_of_block (heap_alloc_new w3 _)) (by simp [Value.oneCell']) (by omega) (by unfold maxLen; omega) (by omega) (by simp; omega) _ rfl ?_; intro g6 cap6 w8 hown6 hgrow6 hat6 hlt6; have HST := Lib.hid (HPU.out _ _ _ hown6 hgrow6 hat6); have HBG := Lib.hid (HO4.out.1.grown hgrow6 HO4.out.1.size (fun q hq => by obtain ⟨ad, e9, rfl⟩ := own_bk hq; obtain ⟨g9, rfl, hg9, _⟩ := HO4.out.2.le.2.2 ad e9; exact hg9)); clear hown6 hgrow6 hat6)
     go_roundw
     case rel => exact ⟨i + 1, some ⟨g6, 0, none⟩, cap6, os ++ [⟨P, nall, npass, ks⟩], rfl, by go_num, by omega, by rw [List.length_append, HOS.out]; rfl, ⟨HBG.out, HST.out⟩, HLN.out.1 ks HLKF.out⟩
     case measure => simp [intOf]; omega
  ·obtain rfl : i = l.length := by omega
   have HLF := Lib.hid (show Cm.linkNodes l l = .ok os by have := HLK.out; rwa [List.take_length] at this)
   have HOI := Lib.hid (Cm.linked_inside HIN.out HLF.out)
   have hos := HOS.out
   go_wp2_with fail
   go_loopw [13] (fun q13 wr => ∃ q : Nat, q ≤ l.length ∧ q13 = .int .i64 q ∧ OutN w A5 c5 os wr ∧ ∀ p, p < q → ¬ Cm.Leads os p p) (fun q13 _ => l.length - (intOf q13).toNat)
   case atStart => exact ⟨0, by omega, rfl, HOUT.out, fun p hp => absurd hp (Nat.not_lt_zero _)⟩
   case round =>
    obtain ⟨q, hq, rfl, hout, hno⟩ := hrel
    have HO := Lib.hid hout
    have HNO := Lib.hid hno
    clear hout hno
    by_cases hql : q < l.length
    ·have hle := HO.out.2.le
     have HRE := Lib.hid (refReach_any os A5 c5 q wr HO.out.2.slN hle.1 hle.2.1 (by omega) HOI.out.1 (by omega))
     rw [hos] at HRE
     have hqi : (q : Int) < (l.length : Int) := by omega
     clear hos
     go_wp2_with fail
     refine HRE.out.mono ?_
     rintro e5 w5 ⟨g5, out, rfl, hoa, hol, hld, hb5⟩
     have HOA := Lib.hid hoa
     have HLD := Lib.hid hld
     have HO5 := Lib.hid (HO.out.on hb5)
     obtain ⟨b, hb⟩ : ∃ b, out[q]? = some b := ⟨_, List.getElem?_eq_getElem (by omega)⟩
     have hc := hoa.cell hb
     have hcl := World.block_lt_of_cell? _ _ hc
     have HBB := Lib.hid hb
     clear hoa hld hb5 hb HRE
     cases b with
     | false =>
      go_wp2_with fail
      go_roundw
      case rel => exact ⟨q + 1, by omega, by go_num, HO5.out, fun p hp => by
       by_cases e : p = q
       ·subst e; exact fun k => by have := (HLD.out p).2 k; rw [HBB.out] at this; cases this
       ·exact HNO.out p (by omega)⟩
      case measure => simp [intOf]; omega
     | true =>
      obtain ⟨g7, o7, cs7, hA7, ⟨A7, c7, rfl, _, _, _⟩, hc7⟩ := HO5.out.2.slN q _ (List.getElem?_eq_getElem (show q < os.length by rw [HOS.out]; exact hql))
      subst hA7
      have y0 := hc7 0 _ rfl
      have hyl := World.block_lt_of_cell? _ _ y0
      have HFI := Lib.hid (show Cm.link l = .bad 13 (os[q]'(by rw [HOS.out]; exact hql)).at_ by
       unfold Cm.link
       rw [HLF.out]
       simp only
       rw [Cm.ring_is (j := q) (by rw [HOS.out]; exact hql) ((HLD.out q).1 HBB.out) HNO.out]
       simp only
       rw [List.getElem?_eq_getElem (by rw [HOS.out]; exact hql)]
       rfl)
      simp only [Nat.add_zero] at y0
      clear hc7
      generalize (os[q]'(by rw [HOS.out]; exact hql)).at_ = pq at *
      go_upto_region 29 with (fail)
      go_quiet (fail)
      go_wp2_with fail
      go_ret3
      exact ⟨below_drewN HO5.out.1 _, .inr ⟨13, pq, HFI.out, by decide, by decide, rfl⟩⟩
    ·obtain rfl : q = l.length := by omega
     have HFI := Lib.hid (show Cm.link l = .ok os by
      unfold Cm.link
      rw [HLF.out]
      simp only
      rw [Cm.ring_not (fun p hp => HNO.out p (by rw [← HOS.out]; exact hp))])
     go_wp2_with fail
     go_ret3
     exact ⟨HO.out.1, .inl ⟨os, A5, c5, HFI.out, by rw [HOS.out]; rfl, HO.out.2.slN, HO.out.2.le.1, HO.out.2.le.2.1⟩⟩

end Go.Proofs.YtolkfgikomminaaGreatDoor

