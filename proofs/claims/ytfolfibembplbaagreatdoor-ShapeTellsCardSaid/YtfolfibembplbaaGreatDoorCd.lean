/- The walks of layer 10 (shape): the document's Kids. (By gen_cd.py.) -/
import Derived.Test.YtfolfibembplbaaGreatDoorCb
import Derived.Deep.AppendLies
import Derived.Deep.RegionHeld3
namespace Go.Proofs.YtfolfibembplbaaGreatDoor
open Go.RowKit Js

/-- What Kids tells: members that lie in blocks that were there, or new ones. -/
def KidsP (S : Nat → Prop) (r : List Js.Mem) (w : World) (e : Ending) (w' : World) : Prop :=
  ∃ (A : Option Addr) (cp : Nat), e = .returned (.slice A r.length cp) ∧ SlM (w'.on fun b => S b ∨ w.heap.size ≤ b) A r ∧ r.length ≤ cp ∧ cp ≤ maxLen ∧ Below w.heap.size w w'
theorem via10 {K : Act → World → Prop} {a : Act} {w' : World} (F : World → Prop) (hF : F w') (h : ∀ W, F W → K a W) : K a w' := h w' hF
/-- A row that grows by one: what it is, and what it will be. -/
theorem RowG.more {α : Type} {It : Cl → α → List Value → Prop} {T : TypeId} {k : Nat} {S : Nat → Prop} (hmono : ∀ {c c' : Cl}, c.le c' → ∀ {a cs}, It c a cs → It c' a cs) {w : World} {B : Nat} {A : Option Addr} {cp j : Nat} {acc : List α} (hj : acc.length = j) (h : RowG It T k S w B A cp acc) :
    ∃ flat, w.ownsRow B T k (.slice A j cp) j flat ∧ ∀ {w6 : World} {a : α} {cs : List Value} {g cap : Nat}, It (w.on (OffS S B A)) a cs → (∀ u ∈ cs, u.oneCell' = true) → w6.ownsRow B T k (.slice (some ⟨g, 0, none⟩) (j + 1) cap) (j + 1) (flat ++ cs) → w.grownBy w6 (Value.slice A j cp).ownBlock → ((Value.slice A j cp).ownBlock = some g ∨ g = w.heap.size) → RowG It T k S w6 B (some ⟨g, 0, none⟩) cap (acc ++ [a]) := by
  subst hj
  obtain ⟨flat, hown, hone, hel⟩ := h
  exact ⟨flat, hown, fun ha hcs h6 hg hat => RowG.push hmono hown hone hel (Below.refl _ _) ha hcs h6 hg hat⟩
/-- A list of one member, in a block of its own. -/
theorem slM_one10 {w : World} {S : Nat → Prop} {g : Nat} {t : TypeId} {nm : List UInt8} {x : Vl} {c0 c1 c2 c3 c4 c5 c6 c7 : Value} (hb : Blk w g t #[.string ⟨nm.toArray⟩, c0, c1, c2, c3, c4, c5, c6, c7]) (hg : S g)
    (hx : x.In (w.on S) (.agg #[c0, c1, c2, c3, c4, c5, c6, c7])) : SlM (w.on S) (some ⟨g, 0, none⟩) [(nm, x)] := fun i p hi => by
  have hl := (List.getElem?_eq_some_iff.1 hi).1
  obtain rfl : i = 0 := by simpa using hl
  obtain rfl : (nm, x) = p := by simpa using hi
  refine ⟨g, 0, _, rfl, hx, on_some.2 ⟨hg, hb.cell 0⟩, fun j u hu => on_some.2 ⟨hg, ?_⟩⟩
  rw [hb.cell]
  have e : (#[.string ⟨nm.toArray⟩, c0, c1, c2, c3, c4, c5, c6, c7] : Array Value) = #[.string ⟨nm.toArray⟩] ++ #[c0, c1, c2, c3, c4, c5, c6, c7] := rfl
  rw [e, show 0 + 0 * 9 + 1 + j = 1 + j by omega, Array.getElem?_append_right (by simp)]
  simpa [Value.cells] using hu
/-- A value's box, where a row of the call's own has grown. -/
theorem Boxed.grown10 {w w' w6 : World} {k : Int} {b neg : Bool} {dg : List UInt8} {ex : Int} {s : List UInt8} {lv mv : Value} {row : Option Nat} (h : Boxed w k b neg dg ex s lv mv w') (hg : w'.grownBy w6 row) (hr : ∀ q, row = some q → w.heap.size + 1 ≤ q) : Boxed w k b neg dg ex s lv mv w6 := by
  have h2 : Below _ _ w' := h
  exact h2.grown hg (by have := h2.size; simp at this; omega) hr
theorem Boxed.size10 {w w' : World} {k : Int} {b neg : Bool} {dg : List UInt8} {ex : Int} {s : List UInt8} {lv mv : Value} (h : Boxed w k b neg dg ex s lv mv w') : w.heap.size + 1 ≤ w'.heap.size := by
  have h2 : Below _ _ w' := h
  have := h2.size
  simp at this; omega

set_option linter.unusedVariables false in
set_option linter.unusedSimpArgs false in
set_option maxRecDepth 100000 in
set_option maxHeartbeats 2000000 in
theorem refKids_list (S : Nat → Prop) (nm : List UInt8) (h10 : nm = [97, 108, 108, 79, 102] ∨ nm = [97, 110, 121, 79, 102] ∨ nm = [111, 110, 101, 79, 102]) (k : Int) (b : Bool) (n : Nm.Num) (s : List UInt8) (l : List Vl) (m : List Js.Mem) (A : Option Addr) (e : Nat) (B : Option Addr) (d : Nat) (w : World) (hS : ∀ b, S b → b < w.heap.size) (q1 : l.length ≤ e) (q2 : e ≤ maxLen) (hs5 : SlL (w.on S) A l) (hsz : l.length ≤ 1000000) :
    Calls Tryz.prog 13 #[.string ⟨nm.toArray⟩, .agg #[.int .i64 k, .bool b, .bool n.neg, .string ⟨n.digits.toArray⟩, .int .i64 n.exp, .string ⟨s.toArray⟩, .slice A l.length e, .slice B m.length d]] w (KidsP S (Sh.numbered l) w) := by
  have H5 := Lib.hid hs5
  have HS := Lib.hid hS
  have HSG := Lib.hid (refSingle_any nm)
  unfold maxLen at q2
  clear hs5 hS
  rcases h10 with rfl | rfl | rfl
  all_goals
    rw [show Sh.single _ = false by decide] at HSG
    go_enter Tryz.func13, Tryz.ntmps13
    go_wp2_with fail
    refine (HSG.out _).mono ?_
    rintro e1 w1 ⟨rfl, rfl⟩
    go_wp2_with fail
    go_loopw [6, 7] (fun o6 i7 wr => ∃ (j : Nat) (A1 : Option Addr) (c1 : Nat) (acc : List Js.Mem), o6 = .slice A1 j c1 ∧ i7 = .int .i64 j ∧ j ≤ l.length ∧ acc = Sh.numbered (l.take j) ∧ acc.length = j ∧ Boxed w k b n.neg n.digits n.exp s (.slice A l.length e) (.slice B m.length d) wr ∧ RowG ItM 50 9 S wr (w.heap.size + 1) A1 c1 acc) (fun _ i _ => l.length - (intOf i).toNat)
    case atStart => exact ⟨0, none, 0, [], rfl, rfl, by omega, rfl, rfl, Boxed.start, RowG.nil _ _⟩
    case round =>
      obtain ⟨j, A1, c1, acc, rfl, rfl, hj, hacc, hlen, hW, hrow⟩ := hrel
      have HW := Lib.hid hW
      have HROW := Lib.hid hrow
      have HACC := Lib.hid hacc
      have HLEN := Lib.hid hlen
      have hrl := hrow.le
      rw [hlen] at hrl
      obtain ⟨f0, f1, f2, f3, f4, f5, f6, f7⟩ := hW.cells
      clear hW hrow hacc hlen
      by_cases hlt : j < l.length
      · obtain ⟨g, o, y, rfl, hy, hc⟩ := H5.out j _ (List.getElem?_eq_getElem hlt)
        obtain ⟨y_1, y_2, y_3, y_4, y_5, y_6, y_7, y_8, y_9, y_a, y_b, y_c, rfl⟩ := In.cells hy
        have HDG := Lib.hid (fun W => refDigits_any j W (by omega))
        have HC := Lib.hid (show CellsAt w.cell? g (o + j * 8) (.agg #[.int .i64 y_1, .bool y_2, .bool y_3, .string ⟨y_4.toArray⟩, .int .i64 y_5, .string ⟨y_6.toArray⟩, .slice y_7 y_8 y_9, .slice y_a y_b y_c]) from hc.keep (on_all w S))
        have HY := Lib.hid hy
        have HNX := Lib.hid (Sh.numbered_take l j hlt)
        obtain ⟨i0, hi0, hz0, hz1, hz2⟩ := infoM'
        have hjj : (j : Int) < (l.length : Int) := by omega
        have HB0 := Lib.hid HW.out.below
        clear hy hc f0 f1 f2 f3 f4 f5 f7
        obtain ⟨e0, e1, e2, e3, e4, e5, e6, e7⟩ := (HC.out.keep HW.out.le).eight
        have hgl := World.block_lt_of_cell? _ _ e0
        clear e0 e1 e2 e3 e4 e5 e6 e7
        go_upto_region 11 with (fail)
        clear f6
        refine wp_region_held_drew (S := Boxed w k b n.neg n.digits n.exp s (.slice (some ⟨g, o, none⟩) l.length e) (.slice B m.length d)) (by kernel_rfl) (HW.out.next (below_drewN (Below.refl _ _) 1)) (fun ht => ?_)
        refine wpAnyH_take (i := 0) (oi := ⟨some _, _, _, _, _, _⟩) (v := (.slice A1 j c1)) rfl (by kernel_rfl) (by kernel_rfl) (by kernel_rfl) (fun _ _ _ h => h) (Or.inl ⟨by rfl, ?_⟩) ht ?_
        · intro W9 hSw
          go_simp
        try simp only [Act.put, List.setIfInBounds_toArray, List.set_cons_zero, List.set_cons_succ]
        refine wpAnyH_take (i := 1) (oi := ⟨some _, _, _, _, _, _⟩) (v := (.int .i64 j)) rfl (by kernel_rfl) (by kernel_rfl) (by kernel_rfl) (fun _ _ _ h => h) (Or.inl ⟨by rfl, ?_⟩) ht ?_
        · intro W9 hSw
          go_simp
        try simp only [Act.put, List.setIfInBounds_toArray, List.set_cons_zero, List.set_cons_succ]
        refine wpAnyH_take (i := 3) (oi := ⟨some _, _, _, _, _, _⟩) (v := (.pointer (some ⟨w.heap.size, 6, none⟩))) rfl (by kernel_rfl) (by kernel_rfl) (by kernel_rfl) (fun _ _ _ h => h) (Or.inl ⟨by rfl, ?_⟩) ht ?_
        · intro W9 hSw
          go_simp
        try simp only [Act.put, List.setIfInBounds_toArray, List.set_cons_zero, List.set_cons_succ]
        refine wpAnyH_take (i := 4) (oi := ⟨some _, _, _, _, _, _⟩) (v := (.slice (some ⟨g, o, none⟩) l.length e)) rfl (by kernel_rfl) (by kernel_rfl) (by kernel_rfl) (fun _ _ _ h => h) (Or.inl ⟨by rfl, ?_⟩) ht ?_
        · intro W9 hSw
          obtain ⟨f0, f1, f2, f3, f4, f5, f6, f7⟩ := hSw.cells
          go_simp
        try simp only [Act.put, List.setIfInBounds_toArray, List.set_cons_zero, List.set_cons_succ]
        refine wpAnyH_take (i := 5) (oi := ⟨some _, _, _, _, _, _⟩) (v := (.int .i64 j)) rfl (by kernel_rfl) (by kernel_rfl) (by kernel_rfl) (fun _ _ _ h => h) (Or.inl ⟨by rfl, ?_⟩) ht ?_
        · intro W9 hSw
          go_simp
        try simp only [Act.put, List.setIfInBounds_toArray, List.set_cons_zero, List.set_cons_succ]
        refine wpAnyH_take (i := 6) (oi := ⟨some _, _, _, _, _, _⟩) (v := (.pointer (some ⟨g, o + j * 8, none⟩))) rfl (by kernel_rfl) (by kernel_rfl) (by kernel_rfl) (fun _ _ _ h => h) (Or.inl ⟨by rfl, ?_⟩) ht ?_
        · intro W9 hSw
          go_simp
        try simp only [Act.put, List.setIfInBounds_toArray, List.set_cons_zero, List.set_cons_succ]
        refine wpAnyH_take (i := 7) (oi := ⟨some _, _, _, _, _, _⟩) (v := (.agg #[.int .i64 y_1, .bool y_2, .bool y_3, .string ⟨y_4.toArray⟩, .int .i64 y_5, .string ⟨y_6.toArray⟩, .slice y_7 y_8 y_9, .slice y_a y_b y_c])) rfl (by kernel_rfl) (by kernel_rfl) (by kernel_rfl) (fun _ _ _ h => h) (Or.inl ⟨by rfl, ?_⟩) ht ?_
        · intro W9 hSw
          obtain ⟨e0, e1, e2, e3, e4, e5, e6, e7⟩ := (HC.out.keep hSw.le).eight
          go_simp
        try simp only [Act.put, List.setIfInBounds_toArray, List.set_cons_zero, List.set_cons_succ]
        refine wpAnyH_ready (rs := [2]) (by kernel_rfl) (by simp) ?_
        refine AllReadyH.cons (o := ⟨some _, _, _, _, _, _⟩) rfl (fun K hK => ?_) (AllReadyH.nil)
        go_simp
        refine (HDG.out _).mono ?_
        rintro e2 w2 ⟨rfl, hb2⟩
        have hs := ht.next hb2
        have HR2 := Lib.hid (HROW.out.below (It := ItM) (fun h => ItM.mono h) ((below_drewN (Below.refl _ _) 1).trans hb2))
        have HB2 := Lib.hid (HB0.out.trans (((below_drewN (Below.refl _ _) 1).trans hb2).mono HB0.out.size))
        clear hb2 ht
        go_wp2_with fail
        refine hK.out _ _ hs (fun ht => ?_)
        clear hK K hs
        try simp only [Act.put, List.setIfInBounds_toArray, List.set_cons_zero, List.set_cons_succ]
        refine wpAnyH_take (i := 8) (oi := ⟨some _, _, _, _, _, _⟩) (v := (.agg #[.string ⟨(Lib.decDigits j).toArray⟩, .int .i64 y_1, .bool y_2, .bool y_3, .string ⟨y_4.toArray⟩, .int .i64 y_5, .string ⟨y_6.toArray⟩, .slice y_7 y_8 y_9, .slice y_a y_b y_c])) rfl (by kernel_rfl) (by kernel_rfl) (by kernel_rfl) (fun _ _ _ h => h) (Or.inl ⟨by rfl, ?_⟩) ht ?_
        · intro W9 hSw
          go_simp
        try simp only [Act.put, List.setIfInBounds_toArray, List.set_cons_zero, List.set_cons_succ]
        refine wpAnyH_ready (rs := [9]) (by kernel_rfl) (by simp) ?_
        refine AllReadyH.cons (o := ⟨some _, _, _, _, _, _⟩) rfl (fun K hK => ?_) (AllReadyH.nil)
        go_simp
        refine via10 (K := K) (fun W9 => Boxed w k b n.neg n.digits n.exp s (.slice (some ⟨g, o, none⟩) l.length e) (.slice B m.length d) W9 ∧ Blk W9 w2.heap.size 50 #[.string ⟨(Lib.decDigits j).toArray⟩, .int .i64 y_1, .bool y_2, .bool y_3, .string ⟨y_4.toArray⟩, .int .i64 y_5, .string ⟨y_6.toArray⟩, .slice y_7 y_8 y_9, .slice y_a y_b y_c] ∧ RowG ItM 50 9 S W9 (w.heap.size + 1) A1 c1 acc) ⟨ht.next ((Below.refl _ _).alloc (Nat.le_refl _) _), Blk.new w2 _ _, HR2.out.below (It := ItM) (fun h => ItM.mono h) ((Below.refl _ _).alloc (Nat.le_refl _) _)⟩ ?_
        rintro w3 ⟨ht3, hn, hr3⟩
        have HN := Lib.hid hn
        have HR3 := Lib.hid hr3
        clear hn hr3 ht HR2 HB2
        refine hK.out _ _ ht3 (fun ht => ?_)
        clear hK K ht3
        try simp only [Act.put, List.setIfInBounds_toArray, List.set_cons_zero, List.set_cons_succ]
        obtain ⟨gN, hgN⟩ : ∃ g, g = w2.heap.size := ⟨_, rfl⟩
        rw [← hgN] at HN ⊢
        clear hgN
        obtain ⟨flat, hown, hpush⟩ := RowG.more (It := ItM) (fun h => ItM.mono h) HLEN.out HR3.out
        have hsz3 : w.heap.size + 1 ≤ w3.heap.size := ht.size10
        have hit : ItM (w3.on (OffS S (w.heap.size + 1) A1)) (Lib.decDigits j, l[j]) (#[.string ⟨(Lib.decDigits j).toArray⟩, .int .i64 y_1, .bool y_2, .bool y_3, .string ⟨y_4.toArray⟩, .int .i64 y_5, .string ⟨y_6.toArray⟩, .slice y_7 y_8 y_9, .slice y_a y_b y_c] : Array Value).toList := ⟨#[.int .i64 y_1, .bool y_2, .bool y_3, .string ⟨y_4.toArray⟩, .int .i64 y_5, .string ⟨y_6.toArray⟩, .slice y_7 y_8 y_9, .slice y_a y_b y_c], rfl, In.keep (off_of HS.out (by omega) ht.below (fun ad h => (hrl.2.2.2 ad h).1)) _ _ HY.out⟩
        refine wpAnyH_ready (rs := [10]) (by kernel_rfl) (by simp) ?_
        refine AllReadyH.cons (o := ⟨some _, _, _, _, _, _⟩) rfl (fun K hK => ?_) (AllReadyH.nil)
        refine step_append_lies _ rfl _ _ _ rfl (w.heap.size + 1) 50 i0 _ 9 128 Tryz.underlying26 hi0 hz0 hz1 hz2 rfl (by omega) (.slice A1 j c1) j flat rfl hown ⟨gN, 0, none⟩ 1 1 (#[.string ⟨(Lib.decDigits j).toArray⟩, .int .i64 y_1, .bool y_2, .bool y_3, .string ⟨y_4.toArray⟩, .int .i64 y_5, .string ⟨y_6.toArray⟩, .slice y_7 y_8 y_9, .slice y_a y_b y_c] : Array Value).toList rfl rfl (World.news_of_block HN.out) (by simp [Value.oneCell']) (by omega) (by unfold maxLen; omega) (by omega) hsz3 _ rfl ?_
        intro g6 cap6 w6 hown6 hgr6 hat6 hlt6
        have HR6 := Lib.hid (hpush hit (by simp [Value.oneCell']) hown6 hgr6 hat6)
        have hkr : ∀ q, (Value.slice A1 j c1).ownBlock = some q → w.heap.size + 1 ≤ q := fun q hq => own_new (fun ad h => (hrl.2.2.2 ad h).1) hq
        have ht6 := ht.grown10 hgr6 hkr
        clear hown6 hgr6 hat6 hit hown hpush ht
        refine hK.out _ _ ht6 (fun ht => ?_)
        clear hK K ht6
        try simp only [Act.put, List.setIfInBounds_toArray, List.set_cons_zero, List.set_cons_succ]
        refine wpAnyH_take (i := 11) (oi := ⟨some _, _, _, _, _, _⟩) (v := (.slice (some ⟨g6, 0, none⟩) (j + 1) cap6)) rfl (by kernel_rfl) (by kernel_rfl) (by kernel_rfl) (fun _ _ _ h => h) (Or.inl ⟨by rfl, ?_⟩) ht ?_
        · intro W9 hSw
          go_simp
        try simp only [Act.put, List.setIfInBounds_toArray, List.set_cons_zero, List.set_cons_succ]
        refine wpAnyH_done (by kernel_rfl) ?_ _
        have HX := Lib.hid ht
        clear ht
        go_wp2_with fail
        go_roundw
        case rel => exact ⟨j + 1, _, cap6, acc ++ [(Lib.decDigits j, l[j])], rfl, by go_num, by omega, by rw [HNX.out, HACC.out], by rw [List.length_append, HLEN.out]; rfl, HX.out, HR6.out⟩
        case measure => simp [intOf]; omega
      · obtain rfl : j = l.length := by omega
        have HE := Lib.hid (show acc = Sh.numbered l by rw [HACC.out, List.take_length])
        go_wp2_with fail
        go_ret
        refine ⟨A1, c1, by rw [Sh.numbered_len]; rfl, ?_, by rw [Sh.numbered_len]; exact hrl.1, hrl.2.1, HW.out.below⟩
        have h := HROW.out.slM
        rw [HE.out] at h
        exact h.keep (on_sub fun b hb => hb.imp id (fun k => by omega))
set_option linter.unusedVariables false in
set_option linter.unusedSimpArgs false in
set_option maxRecDepth 100000 in
set_option maxHeartbeats 2000000 in
theorem refKids_single (S : Nat → Prop) (nm : List UInt8) (hn : nm = [105, 116, 101, 109, 115] ∨ nm = [97, 100, 100, 105, 116, 105, 111, 110, 97, 108, 80, 114, 111, 112, 101, 114, 116, 105, 101, 115] ∨ nm = [110, 111, 116]) (k : Int) (b : Bool) (n : Nm.Num) (s : List UInt8) (l : List Vl) (m : List Js.Mem) (A : Option Addr) (e : Nat) (B : Option Addr) (d : Nat) (w : World) (hS : ∀ b, S b → b < w.heap.size) (hx : (Vl.mk k b n s l m).In (w.on S) (.agg #[.int .i64 k, .bool b, .bool n.neg, .string ⟨n.digits.toArray⟩, .int .i64 n.exp, .string ⟨s.toArray⟩, .slice A l.length e, .slice B m.length d])) :
    Calls Tryz.prog 13 #[.string ⟨nm.toArray⟩, .agg #[.int .i64 k, .bool b, .bool n.neg, .string ⟨n.digits.toArray⟩, .int .i64 n.exp, .string ⟨s.toArray⟩, .slice A l.length e, .slice B m.length d]] w (KidsP S (Sh.kids nm (.mk k b n s l m)) w) := by
  have HKS := Lib.hid (show Sh.kids nm (.mk k b n s l m) = [([], .mk k b n s l m)] by rw [Sh.kids_mk, if_pos (by rcases hn with rfl | rfl | rfl <;> decide)])
  have HX := Lib.hid hx
  have HS := Lib.hid hS
  have HSG := Lib.hid (refSingle_any nm)
  have HB := Lib.hid (((Below.refl w.heap.size w).alloc (Nat.le_refl _) (.cells #[.int .i64 k, .bool b, .bool n.neg, .string ⟨n.digits.toArray⟩, .int .i64 n.exp, .string ⟨s.toArray⟩, .slice A l.length e, .slice B m.length d] 28)).alloc (by simp) (.cells #[.string ⟨#[]⟩, .int .i64 k, .bool b, .bool n.neg, .string ⟨n.digits.toArray⟩, .int .i64 n.exp, .string ⟨s.toArray⟩, .slice A l.length e, .slice B m.length d] 50))
  have HN := Lib.hid (Blk.new2 w (.cells #[.int .i64 k, .bool b, .bool n.neg, .string ⟨n.digits.toArray⟩, .int .i64 n.exp, .string ⟨s.toArray⟩, .slice A l.length e, .slice B m.length d] 28) 50 #[.string ⟨([] : List UInt8).toArray⟩, .int .i64 k, .bool b, .bool n.neg, .string ⟨n.digits.toArray⟩, .int .i64 n.exp, .string ⟨s.toArray⟩, .slice A l.length e, .slice B m.length d])
  clear hx hS
  rcases hn with rfl | rfl | rfl
  all_goals
    rw [show Sh.single _ = true by decide] at HSG
    go_enter Tryz.func13, Tryz.ntmps13
    go_wp2_with fail
    refine (HSG.out _).mono ?_
    rintro e1 w1 ⟨rfl, rfl⟩
    go_wp2_with fail
    go_ret
    rw [HKS.out]
    exact ⟨some ⟨w.heap.size + 1, 0, none⟩, 1, rfl, slM_one10 HN.out (.inr (Nat.le_succ _)) (In.keep (on_keep (fun b h _ => .inl h) (fun b h _ => HB.out.block b (HS.out b h))) _ _ HX.out), Nat.le_refl _, by unfold maxLen; omega, HB.out⟩

set_option linter.unusedVariables false in
set_option linter.unusedSimpArgs false in
set_option maxRecDepth 100000 in
set_option maxHeartbeats 2000000 in
theorem refKids_members (S : Nat → Prop) (nm : List UInt8) (hn : nm = [112, 114, 111, 112, 101, 114, 116, 105, 101, 115] ∨ nm = [36, 100, 101, 102, 115]) (k : Int) (b : Bool) (n : Nm.Num) (s : List UInt8) (l : List Vl) (m : List Js.Mem) (A : Option Addr) (e : Nat) (B : Option Addr) (d : Nat) (w : World) (hS : ∀ b, S b → b < w.heap.size) (q3 : m.length ≤ d) (q4 : d ≤ maxLen) (q6 : SlM (w.on S) B m) :
    Calls Tryz.prog 13 #[.string ⟨nm.toArray⟩, .agg #[.int .i64 k, .bool b, .bool n.neg, .string ⟨n.digits.toArray⟩, .int .i64 n.exp, .string ⟨s.toArray⟩, .slice A l.length e, .slice B m.length d]] w (KidsP S (Sh.kids nm (.mk k b n s l m)) w) := by
  have HKS := Lib.hid (show Sh.kids nm (.mk k b n s l m) = m by rw [Sh.kids_mk, if_neg (by rcases hn with rfl | rfl <;> decide), if_pos (by rcases hn with rfl | rfl <;> decide)])
  have H6 := Lib.hid q6
  have HS := Lib.hid hS
  have HSG := Lib.hid (refSingle_any nm)
  have HB := Lib.hid ((Below.refl w.heap.size w).alloc (Nat.le_refl _) (.cells #[.int .i64 k, .bool b, .bool n.neg, .string ⟨n.digits.toArray⟩, .int .i64 n.exp, .string ⟨s.toArray⟩, .slice A l.length e, .slice B m.length d] 28))
  clear q6 hS
  rcases hn with rfl | rfl
  all_goals
    rw [show Sh.single _ = false by decide] at HSG
    go_enter Tryz.func13, Tryz.ntmps13
    go_wp2_with fail
    refine (HSG.out _).mono ?_
    rintro e1 w1 ⟨rfl, rfl⟩
    go_wp2_with fail
    go_ret
    rw [HKS.out]
    exact ⟨B, d, rfl, H6.out.keep (on_keep (fun b h _ => .inl h) (fun b h _ => HB.out.block b (HS.out b h))), q3, q4, HB.out⟩

set_option linter.unusedVariables false in
set_option linter.unusedSimpArgs false in
set_option maxRecDepth 100000 in
set_option maxHeartbeats 2000000 in
theorem refKids_none (S : Nat → Prop) (nm : List UInt8) (hn : ¬ nm ∈ [[105, 116, 101, 109, 115], [97, 100, 100, 105, 116, 105, 111, 110, 97, 108, 80, 114, 111, 112, 101, 114, 116, 105, 101, 115], [110, 111, 116], [112, 114, 111, 112, 101, 114, 116, 105, 101, 115], [36, 100, 101, 102, 115], [97, 108, 108, 79, 102], [97, 110, 121, 79, 102], [111, 110, 101, 79, 102]]) (k : Int) (b : Bool) (n : Nm.Num) (s : List UInt8) (l : List Vl) (m : List Js.Mem) (A : Option Addr) (e : Nat) (B : Option Addr) (d : Nat) (w : World) (hS : ∀ b, S b → b < w.heap.size) :
    Calls Tryz.prog 13 #[.string ⟨nm.toArray⟩, .agg #[.int .i64 k, .bool b, .bool n.neg, .string ⟨n.digits.toArray⟩, .int .i64 n.exp, .string ⟨s.toArray⟩, .slice A l.length e, .slice B m.length d]] w (KidsP S (Sh.kids nm (.mk k b n s l m)) w) := by
  have h8 : ¬ Sh.kw nm = 8 := Sh.kw_only _ (by decide) hn (by decide)
  have h9 : ¬ Sh.kw nm = 9 := Sh.kw_only _ (by decide) hn (by decide)
  have h10 : ¬ Sh.kw nm = 10 := Sh.kw_only _ (by decide) hn (by decide)
  have HKS := Lib.hid (show Sh.kids nm (.mk k b n s l m) = [] by rw [Sh.kids_mk, if_neg h8, if_neg h9, if_neg h10])
  have HSG := Lib.hid (refSingle_any nm)
  rw [show Sh.single nm = false from decide_eq_false h8] at HSG
  have HB := Lib.hid ((Below.refl w.heap.size w).alloc (Nat.le_refl _) (.cells #[.int .i64 k, .bool b, .bool n.neg, .string ⟨n.digits.toArray⟩, .int .i64 n.exp, .string ⟨s.toArray⟩, .slice A l.length e, .slice B m.length d] 28))
  have e0 : (nm == [112, 114, 111, 112, 101, 114, 116, 105, 101, 115]) = false := by rw [beq_eq_false_iff_ne]; rintro rfl; exact hn (by simp)
  have e1 : (nm == [36, 100, 101, 102, 115]) = false := by rw [beq_eq_false_iff_ne]; rintro rfl; exact hn (by simp)
  have e2 : (nm == [97, 108, 108, 79, 102]) = false := by rw [beq_eq_false_iff_ne]; rintro rfl; exact hn (by simp)
  have e3 : (nm == [97, 110, 121, 79, 102]) = false := by rw [beq_eq_false_iff_ne]; rintro rfl; exact hn (by simp)
  have e4 : (nm == [111, 110, 101, 79, 102]) = false := by rw [beq_eq_false_iff_ne]; rintro rfl; exact hn (by simp)
  clear hn hS h8 h9 h10
  go_enter Tryz.func13, Tryz.ntmps13
  go_wp2_with fail
  refine (HSG.out _).mono ?_
  rintro e1 w1 ⟨rfl, rfl⟩
  go_wp2_with fail
  go_ret
  rw [HKS.out]
  exact ⟨none, 0, rfl, (fun i p h => by simp at h), Nat.le_refl _, Nat.zero_le _, HB.out⟩

theorem refKids_any (S : Nat → Prop) (nm : List UInt8) (v : Vl) (x : Value) (w : World) (hS : ∀ b, S b → b < w.heap.size) (hx : v.In (w.on S) x) (hsz : v.size ≤ 1000000) :
    Calls Tryz.prog 13 #[.string ⟨nm.toArray⟩, x] w (KidsP S (Sh.kids nm v) w) := by
  obtain ⟨k, b, n, s, l, m⟩ := v
  obtain ⟨A, e, B, d, rfl, q1, q2, q3, q4, q5, q6⟩ := In.form hx
  have hl : l.length ≤ 1000000 := by
    have h : l.length ≤ sizeL l := sizeL_len l
    simp only [Vl.size] at hsz; omega
  by_cases hn : nm ∈ [[105, 116, 101, 109, 115], [97, 100, 100, 105, 116, 105, 111, 110, 97, 108, 80, 114, 111, 112, 101, 114, 116, 105, 101, 115], [110, 111, 116], [112, 114, 111, 112, 101, 114, 116, 105, 101, 115], [36, 100, 101, 102, 115], [97, 108, 108, 79, 102], [97, 110, 121, 79, 102], [111, 110, 101, 79, 102]]
  · simp only [List.mem_cons, List.not_mem_nil, or_false] at hn
    rcases hn with h | h | h | h | h | h | h | h
    · exact refKids_single S nm (.inl h) k b n s l m A e B d w hS hx
    · exact refKids_single S nm (.inr (.inl h)) k b n s l m A e B d w hS hx
    · exact refKids_single S nm (.inr (.inr h)) k b n s l m A e B d w hS hx
    · exact refKids_members S nm (.inl h) k b n s l m A e B d w hS q3 q4 q6
    · exact refKids_members S nm (.inr h) k b n s l m A e B d w hS q3 q4 q6
    · have hk : Sh.kids nm (.mk k b n s l m) = Sh.numbered l := by subst h; rw [Sh.kids_mk, if_neg (by decide), if_neg (by decide), if_pos (by decide)]
      rw [hk]; exact refKids_list S nm (.inl h) k b n s l m A e B d w hS q1 q2 q5 hl
    · have hk : Sh.kids nm (.mk k b n s l m) = Sh.numbered l := by subst h; rw [Sh.kids_mk, if_neg (by decide), if_neg (by decide), if_pos (by decide)]
      rw [hk]; exact refKids_list S nm (.inr (.inl h)) k b n s l m A e B d w hS q1 q2 q5 hl
    · have hk : Sh.kids nm (.mk k b n s l m) = Sh.numbered l := by subst h; rw [Sh.kids_mk, if_neg (by decide), if_neg (by decide), if_pos (by decide)]
      rw [hk]; exact refKids_list S nm (.inr (.inr h)) k b n s l m A e B d w hS q1 q2 q5 hl
  · exact refKids_none S nm hn k b n s l m A e B d w hS

end Go.Proofs.YtfolfibembplbaaGreatDoor

