/- The laws of layer 14 (check), given what the program's Own is to do: CheckTells. (By gen_hj.py.) -/
import Derived.Test.YtolkfgikomminaaGreatDoorHg
import Derived.Test.YtolkfgikomminaaGreatDoorHi
import Derived.Test.YtolkfgikomminaaGreatDoorCf
namespace Go.Proofs.YtolkfgikomminaaGreatDoor
open Go.RowKit Js Pt

def OwnP (l : List (List UInt8)) (w : World) (e : Ending) (w' : World) : Prop := ∃ (A : Option Addr) (c : Nat), e = .returned (.slice A l.length c) ∧ Strs w'.cell? A l ∧ l.length ≤ c ∧ c ≤ maxLen ∧ Below w.heap.size w w'
def OwnT (G : World → Prop) : Prop := ∀ (P : Cm.Names) (tx : List UInt8) (nall npass : Bool) (keys : List Cm.Key) (A2 : Option Addr) (c2 : Nat) (v : Vl) (xv : Value) (w : World), G w → SlKey w.cell? A2 keys → keys.length ≤ c2 → c2 ≤ maxLen → keys.length ≤ 1000000 → (∀ K ∈ keys, Wide K.v) → Wide v → v.In w.cell? xv → (nall = true → keys = []) →
 Calls Tryz.prog 9 #[.agg #[.string ⟨tx.toArray⟩, .bool nall, .bool npass, .slice A2 keys.length c2], xv] w (OwnP (Ow.own ⟨P, nall, npass, keys⟩ v) w)
set_option linter.unusedVariables false in
set_option linter.unusedSimpArgs false in
set_option maxRecDepth 100000 in
set_option maxHeartbeats 8000000 in
theorem value_sure14 (s : ByteArray) (v : Vl) (u : List UInt8) (hs : s.size ≤ 2000) (hp : Ps.parse s.data.toList = .ok v u) (w : World) :
  Calls Tryz.prog 7 #[.string s] w fun e w' => ∃ x, e = .returned (.tuple #[x, .int .i64 1]) ∧ v.In w'.cell? x ∧ Below w.heap.size w w' := by
 have HPS := Lib.hid hp
 have HZ := Lib.hid (Blk.new w 31 zero8)
 have HB := Lib.hid (show Below w.heap.size w (w.alloc (.cells zero8 31)) from (Below.refl _ _).alloc (Nat.le_refl _) _)
 have HP := Lib.hid (refParse_any s (by omega) (w.alloc (.cells zero8 31)))
 have hsz : (w.alloc (.cells zero8 31)).heap.size = w.heap.size + 1 := by simp
 have t1 : decide ((2000 : Int) < (s.size : Int)) = false := by simp; omega
 clear hp
 go_enter Tryz.func7, Tryz.ntmps7
 go_wp2_with fail
 refine HP.out.mono ?_
 rintro e w3 ⟨v3, x, c, p, rfl, hin, hb3, hp3⟩
 rw [HPS.out] at hp3
 obtain ⟨rfl, rfl, _⟩ := hp3
 obtain ⟨k_1, k_2, k_3, k_4, k_5, k_6, k_7, k_8, k_9, k_a, k_b, k_c, rfl⟩ := In.cells hin
 rw [hsz] at hin hb3
 have hb4 := (Below.refl w3.heap.size w3).alloc (Nat.le_refl _) (.cells #[.int .i64 k_1, .bool k_2, .bool k_3, .string ⟨k_4.toArray⟩, .int .i64 k_5, .string ⟨k_6.toArray⟩, .slice k_7 k_8 k_9, .slice k_a k_b k_c] 31)
 have HZ4 := Lib.hid ((HZ.out.below hb3 (by omega)).on hb4)
 have HB4 := Lib.hid ((HB.out.trans (hb3.mono (by omega))).trans (hb4.mono (by have := hb3.size; have := HB.out.size; omega)))
 have BOX := Lib.hid (Blk.new w3 31 #[.int .i64 k_1, .bool k_2, .bool k_3, .string ⟨k_4.toArray⟩, .int .i64 k_5, .string ⟨k_6.toArray⟩, .slice k_7 k_8 k_9, .slice k_a k_b k_c])
 have HIN := Lib.hid (show v3.In ((w3.alloc (.cells #[.int .i64 k_1, .bool k_2, .bool k_3, .string ⟨k_4.toArray⟩, .int .i64 k_5, .string ⟨k_6.toArray⟩, .slice k_7 k_8 k_9, .slice k_a k_b k_c] 31)).on (w.heap.size + 1 ≤ ·)) (.agg #[.int .i64 k_1, .bool k_2, .bool k_3, .string ⟨k_4.toArray⟩, .int .i64 k_5, .string ⟨k_6.toArray⟩, .slice k_7 k_8 k_9, .slice k_a k_b k_c]) from In.keep (on_keep (fun _ h _ => h) (fun b _ h2 => hb4.block b h2)) _ _ hin)
 clear hin hb3 hb4 HP HB HZ
 go_upto_region 4 with (fail)
 generalize w3.alloc (.cells #[.int .i64 k_1, .bool k_2, .bool k_3, .string ⟨k_4.toArray⟩, .int .i64 k_5, .string ⟨k_6.toArray⟩, .slice k_7 k_8 k_9, .slice k_a k_b k_c] 31) = w4 at *
 obtain ⟨z0, z1, z2, z3, z4, z5, z6, z7⟩ := HZ4.out.eight
 have zf := HZ4.out.frozen
 have zl := HZ4.out.lt
 obtain ⟨y0, y1, y2, y3, y4, y5, y6, y7⟩ := BOX.out.eight
 go_wp2_with fail
 refine bodyPost_ret (results_row (l := [_, _, _, _, _, _, _, _]) rfl _ _ _ rfl (HZ4.out.set8 _ _ _ _ _ _ _ _) Tryz.underlying31 rfl (by kernel_rfl)) rfl ?_
 exact ⟨_, rfl, In.keep (le_on _ _) _ _ (in_set8 HIN.out (Nat.lt_succ_self _) (Nat.le_succ _) _ _ _ _ _ _ _ _), below_set8 HB4.out (Nat.le_refl _) _ _ _ _ _ _ _ _⟩

def Ow.two : Vl := .mk 2 false ⟨false, [50], 0⟩ [] [] []
def Ow.oneV : Vl := .mk 2 false ⟨false, [49], 0⟩ [] [] []
def Ow.exV : Vl := .mk 5 false Nm.Num.zero [] [] [(Ow.kMin, Ow.two)]
def Ow.exN : List Cm.Node := [⟨[], false, false, [⟨Ow.kMin, Ow.two, []⟩]⟩]
def Ow.exS : List UInt8 := [123, 34, 109, 105, 110, 105, 109, 117, 109, 34, 58, 50, 125]
theorem Ow.ex_parse : Ps.parse Ow.exS = .ok Ow.exV [] := by kernel_rfl
theorem Ow.ex_one : Ps.parse [49] = .ok Ow.oneV [] := by kernel_rfl
theorem Ow.ex_comp : Cm.compile Ow.exV = .ok Ow.exN := by kernel_rfl
theorem Ow.ex_link : Cm.link Ow.exN = .ok Ow.exN := by
 unfold Cm.link
 rw [show Cm.linkNodes Ow.exN Ow.exN = .ok Ow.exN by kernel_rfl]
 simp only
 rw [Cm.ring_not (out := Ow.exN) (fun q hq h => by
  have hs : ∀ a b, ¬ Cm.Step Ow.exN a b := fun a b ⟨N, hN, hb⟩ => by
   have ha : a = 0 := by have := (List.getElem?_eq_some_iff.1 hN).1; simp [Ow.exN] at this; exact this
   subst ha
   obtain rfl : (⟨[], false, false, [⟨Ow.kMin, Ow.two, []⟩]⟩ : Cm.Node) = N := by simpa [Ow.exN] using hN
   simp [Cm.nexts, Cm.keyNexts] at hb
  cases h with
  | one k => exact hs _ _ k
  | more _ k => exact hs _ _ k)]
theorem Ow.ex_sch : Cm.schR Ow.exS = (Ow.exN, 0, -1) := by
 unfold Cm.schR
 rw [Ow.ex_parse]
 simp only
 rw [Ow.ex_comp]
 simp only
 rw [Ow.ex_link]
 rfl
theorem Ow.ex_own : Ow.own ⟨[], false, false, [⟨Ow.kMin, Ow.two, []⟩]⟩ Ow.oneV = [Ow.kMin] := by kernel_rfl
theorem Ow.wide_two : Wide Ow.two := ⟨by decide, by decide, by simp [Ow.two, Vl.slim, slimL, slimM]⟩
theorem Ow.wide_one : Wide Ow.oneV := ⟨by decide, by decide, by simp [Ow.oneV, Vl.slim, slimL, slimM]⟩
theorem lawNodes_sure (s : ByteArray) (w : World) (hs : s.size ≤ 2000) {L : List Cm.Node} (h : Cm.schR s.data.toList = (L, 0, -1)) : Calls Tryz.prog 6 #[.string s] w fun e w' => ∃ (A : Option Addr) (cp : Nat), e = .returned (.tuple #[.slice A L.length cp, .int .i64 1]) ∧ SlN w'.cell? A L ∧ L.length ≤ cp ∧ cp ≤ maxLen ∧ Below w.heap.size w w' := by
 refine (lawNodes_any s w (by omega)).mono ?_
 rintro e w' ⟨hb, ⟨rfl, h2⟩ | ⟨v, a, L', A, cp, rfl, hnd, h1, h2, h3⟩⟩
 ·exfalso
  rcases h2 with h2 | h2
  ·rw [← Lib.size_eq] at h2; omega
  ·exact h2 (by rw [h])
 ·have h4 := hnd.sch
  rw [h] at h4
  injection h4 with h4 _
  subst h4
  exact ⟨A, cp, rfl, h1, h2, h3, hb⟩

set_option linter.unusedVariables false in
set_option linter.unusedSimpArgs false in
set_option maxRecDepth 100000 in
set_option maxHeartbeats 8000000 in
theorem up14_any {G : World → Prop} (hG : Stays G) (hO : OwnT G) (w : World) (hg : G w) : Calls Tryz.prog 5 #[] w fun e w' => e = .returned (.bool true) ∧ Below w.heap.size w w' := by
 have HND := Lib.hid (lawNodes_sure ⟨#[123, 34, 109, 105, 110, 105, 109, 117, 109, 34, 58, 50, 125]⟩ w (by decide) Ow.ex_sch)
 have HVS := Lib.hid (fun W => value_sure14 ⟨#[49]⟩ Ow.oneV [] (by decide) Ow.ex_one W)
 have HG := Lib.hid (fun (W : World) (h : Below w.heap.size w W) => hG _ _ hg h)
 have HO := Lib.hid hO
 clear hG hO hg
 go_enter Tryz.func5, Tryz.ntmps5
 go_wp2_with fail
 refine HND.out.mono ?_
 rintro e1 w1 ⟨A, cp, rfl, hs1, hl1, hm1, hb1⟩
 have HB1 := Lib.hid hb1
 have HS1 := Lib.hid hs1
 have hl1' : 1 ≤ cp := hl1
 unfold maxLen at hm1
 rw [show Ow.exN.length = 1 from rfl]
 clear hs1 hb1 HND hl1
 go_wp2_with fail
 refine (HVS.out w1).mono ?_
 rintro e2 w2 ⟨x, rfl, hx, hb2⟩
 obtain ⟨k_1, k_2, k_3, k_4, k_5, k_6, k_7, k_8, k_9, k_a, k_b, k_c, rfl⟩ := In.cells hx
 have hb3 := hb2.alloc hb2.size (.cells #[.int .i64 k_1, .bool k_2, .bool k_3, .string ⟨k_4.toArray⟩, .int .i64 k_5, .string ⟨k_6.toArray⟩, .slice k_7 k_8 k_9, .slice k_a k_b k_c] 31)
 have HBZ := Lib.hid (HB1.out.trans (hb3.mono HB1.out.size))
 have HBX := Lib.hid (Blk.new w2 31 #[.int .i64 k_1, .bool k_2, .bool k_3, .string ⟨k_4.toArray⟩, .int .i64 k_5, .string ⟨k_6.toArray⟩, .slice k_7 k_8 k_9, .slice k_a k_b k_c])
 have HXV := Lib.hid (In.keep (le_alloc w2 (.cells #[.int .i64 k_1, .bool k_2, .bool k_3, .string ⟨k_4.toArray⟩, .int .i64 k_5, .string ⟨k_6.toArray⟩, .slice k_7 k_8 k_9, .slice k_a k_b k_c] 31)) _ _ hx)
 have HS2 := Lib.hid (HS1.out.keep (le_below hb3))
 clear hx hb2 hb3 HS1 HVS HB1
 go_upto_region 3 with (fail)
 generalize w2.alloc (.cells #[.int .i64 k_1, .bool k_2, .bool k_3, .string ⟨k_4.toArray⟩, .int .i64 k_5, .string ⟨k_6.toArray⟩, .slice k_7 k_8 k_9, .slice k_a k_b k_c] 31) = wz at *
 generalize w2.heap.size = gv at *
 obtain ⟨g, o, cs, rfl, ⟨A2, c2, rfl, hk2, hl2, hm2⟩, hcN⟩ := HS2.out 0 _ rfl
 simp only [Nat.zero_mul, Nat.add_zero] at hcN
 have HD0 := Lib.hid (fun (W : World) (h : Below wz.heap.size wz W) => (show W.cell? ⟨g, o, none⟩ = some (.string ⟨#[]⟩) from (le_below h) _ _ (hcN 0 _ rfl)))
 have HD1 := Lib.hid (fun (W : World) (h : Below wz.heap.size wz W) => (show W.cell? ⟨g, o + 1, none⟩ = _ from (le_below h) _ _ (hcN 1 _ rfl)))
 have HD2 := Lib.hid (fun (W : World) (h : Below wz.heap.size wz W) => (show W.cell? ⟨g, o + 2, none⟩ = _ from (le_below h) _ _ (hcN 2 _ rfl)))
 have HD3 := Lib.hid (fun (W : World) (h : Below wz.heap.size wz W) => (show W.cell? ⟨g, o + 3, none⟩ = _ from (le_below h) _ _ (hcN 3 _ rfl)))
 have HO1 := Lib.hid (fun (W : World) (h : Below wz.heap.size wz W) => (show Calls Tryz.prog 9 #[.agg #[.string ⟨#[]⟩, .bool false, .bool false, .slice A2 1 c2], .agg #[.int .i64 k_1, .bool k_2, .bool k_3, .string ⟨k_4.toArray⟩, .int .i64 k_5, .string ⟨k_6.toArray⟩, .slice k_7 k_8 k_9, .slice k_a k_b k_c]] W (OwnP [Ow.kMin] W) by
  have := HO.out [] [] false false [⟨Ow.kMin, Ow.two, []⟩] A2 c2 Ow.oneV (.agg #[.int .i64 k_1, .bool k_2, .bool k_3, .string ⟨k_4.toArray⟩, .int .i64 k_5, .string ⟨k_6.toArray⟩, .slice k_7 k_8 k_9, .slice k_a k_b k_c]) W (HG.out _ (HBZ.out.trans (h.mono HBZ.out.size))) (hk2.keep (le_below h)) hl2 hm2 (by simp) (fun K hK => by rw [List.mem_singleton.1 hK]; exact Ow.wide_two) Ow.wide_one (In.keep (le_below h) _ _ HXV.out) (fun h => by cases h)
  rwa [Ow.ex_own] at this))
 have HO2 := Lib.hid (fun (W : World) (h : Below wz.heap.size wz W) => (show Calls Tryz.prog 9 #[.agg #[.string ⟨#[]⟩, .bool true, .bool true, .slice none 0 0], .agg #[.int .i64 k_1, .bool k_2, .bool k_3, .string ⟨k_4.toArray⟩, .int .i64 k_5, .string ⟨k_6.toArray⟩, .slice k_7 k_8 k_9, .slice k_a k_b k_c]] W (OwnP [] W) by
  have := HO.out [] [] true true [] none 0 Ow.oneV (.agg #[.int .i64 k_1, .bool k_2, .bool k_3, .string ⟨k_4.toArray⟩, .int .i64 k_5, .string ⟨k_6.toArray⟩, .slice k_7 k_8 k_9, .slice k_a k_b k_c]) W (HG.out _ (HBZ.out.trans (h.mono HBZ.out.size))) (fun i K h => by simp at h) (Nat.le_refl _) (by unfold maxLen; omega) (by simp) (fun K hK => by cases hK) Ow.wide_one (In.keep (le_below h) _ _ HXV.out) (fun _ => rfl)
  rwa [Ow.own_pass] at this))
 clear hcN hk2 hl2 hm2 HO HG HS2 HXV
 go_upto_region 5 with (fail)
 refine wp_region_held_drew (S := fun W9 => Below wz.heap.size wz W9) (by kernel_rfl) (show Below wz.heap.size wz wz.drew from below_drewN (Below.refl _ _) 1) (fun ht => ?_)
 generalize wz.drew = wd at *
 refine wpAnyH_take (i := 0) (oi := ⟨some _, _, _, _, _, _⟩) (v := (.slice (some ⟨g, o, none⟩) 1 cp)) rfl (by kernel_rfl) (by kernel_rfl) (by kernel_rfl) (fun _ _ _ h => h) (Or.inl ⟨by rfl, ?_⟩) ht ?_
 ·intro W9 hSw
  go_simp
 try simp only [Act.put, List.setIfInBounds_toArray, List.set_cons_zero, List.set_cons_succ]
 refine wpAnyH_take (i := 1) (oi := ⟨some _, _, _, _, _, _⟩) (v := (.pointer (some ⟨g, o, none⟩))) rfl (by kernel_rfl) (by kernel_rfl) (by kernel_rfl) (fun _ _ _ h => h) (Or.inl ⟨by rfl, ?_⟩) ht ?_
 ·intro W9 hSw
  go_simp
 try simp only [Act.put, List.setIfInBounds_toArray, List.set_cons_zero, List.set_cons_succ]
 refine wpAnyH_take (i := 2) (oi := ⟨some _, _, _, _, _, _⟩) (v := (.agg #[.string ⟨#[]⟩, .bool false, .bool false, .slice A2 1 c2])) rfl (by kernel_rfl) (by kernel_rfl) (by kernel_rfl) (fun _ _ _ h => h) (Or.inl ⟨by rfl, ?_⟩) ht ?_
 ·intro W9 hSw
  have d0 := HD0.out W9 hSw
  have d1 := HD1.out W9 hSw
  have d2 := HD2.out W9 hSw
  have d3 := HD3.out W9 hSw
  have hgl := World.block_lt_of_cell? _ _ d0
  go_simp
 try simp only [Act.put, List.setIfInBounds_toArray, List.set_cons_zero, List.set_cons_succ]
 refine wpAnyH_take (i := 3) (oi := ⟨some _, _, _, _, _, _⟩) (v := (.agg #[.int .i64 k_1, .bool k_2, .bool k_3, .string ⟨k_4.toArray⟩, .int .i64 k_5, .string ⟨k_6.toArray⟩, .slice k_7 k_8 k_9, .slice k_a k_b k_c])) rfl (by kernel_rfl) (by kernel_rfl) (by kernel_rfl) (fun _ _ _ h => h) (Or.inl ⟨by rfl, ?_⟩) ht ?_
 ·intro W9 hSw
  obtain ⟨b0, b1, b2, b3, b4, b5, b6, b7⟩ := (HBX.out.on hSw).eight
  have bl := (HBX.out.on hSw).lt
  go_simp
 try simp only [Act.put, List.setIfInBounds_toArray, List.set_cons_zero, List.set_cons_succ]
 refine wpAnyH_ready (rs := [4, 5]) (by kernel_rfl) (by simp) ?_
 refine AllReadyH.cons (o := ⟨some _, _, _, _, _, _⟩) rfl (fun K hK => ?_) (AllReadyH.cons (o := ⟨some _, _, _, _, _, _⟩) rfl (fun K hK => ?_) (AllReadyH.nil))
 ·go_simp
  refine (HO1.out _ ht).mono ?_
  rintro e5 w5 ⟨A5, c5, rfl, hs5, hl5, hm5, hb5⟩
  have hs := ht.trans (hb5.mono ht.size)
  have HS5 := Lib.hid hs5
  have HL5 := Lib.hid hl5
  have HM5 := Lib.hid hm5
  clear hs5 hl5 hm5 hb5 ht
  go_wp2_with fail
  refine hK.out _ _ hs (fun ht => ?_)
  clear hK K hs
  try simp only [Act.put, List.setIfInBounds_toArray, List.set_cons_zero, List.set_cons_succ]
  refine wpAnyH_ready (rs := [5]) (by kernel_rfl) (by simp) ?_
  refine AllReadyH.cons (o := ⟨some _, _, _, _, _, _⟩) rfl (fun K hK => ?_) (AllReadyH.nil)
  go_simp
  refine via14 (K := K) (fun W9 => Below wz.heap.size wz W9 ∧ Strs W9.cell? (some ⟨w5.heap.size, 0, none⟩) [Ow.kMin] ∧ Strs W9.cell? A5 [Ow.kMin]) ⟨ht.alloc ht.size _, strs_one10 w5 _ Ow.kMin, HS5.out.keep (le_below ((Below.refl _ _).alloc (Nat.le_refl _) _))⟩ ?_
  rintro w6 ⟨ht1, hx3, hs5⟩
  have HX3 := Lib.hid hx3
  clear HS5
  have HS5 := Lib.hid hs5
  clear hs5
  clear hx3
  refine hK.out _ _ ht1 (fun ht => ?_)
  clear hK K ht1
  try simp only [Act.put, List.setIfInBounds_toArray, List.set_cons_zero, List.set_cons_succ]
  obtain ⟨g3, hg3⟩ : ∃ g, g = w5.heap.size := ⟨_, rfl⟩
  rw [← hg3] at HX3 ⊢
  clear hg3
  refine wpAnyH_ready (rs := [6]) (by kernel_rfl) (by simp) ?_
  refine AllReadyH.cons (o := ⟨some _, _, _, _, _, _⟩) rfl (fun K hK => ?_) (AllReadyH.nil)
  go_simp
  refine (lawNames_any [Ow.kMin] [Ow.kMin] A5 (some ⟨g3, 0, none⟩) c5 1 _ HS5.out HX3.out HL5.out HM5.out (Nat.le_refl _) (by unfold maxLen; omega)).mono ?_
  rintro e7 w7 ⟨rfl, hb7⟩
  have hs := ht.trans (hb7.mono ht.size)
  rw [if_pos rfl]
  clear ht hb7 HS5 HX3
  go_wp2_with fail
  refine hK.out _ _ hs (fun ht => ?_)
  clear hK K hs
  try simp only [Act.put, List.setIfInBounds_toArray, List.set_cons_zero, List.set_cons_succ]
  refine wpAnyH_take (i := 7) (oi := ⟨some _, _, _, _, _, _⟩) (v := (.bool true)) rfl (by kernel_rfl) (by kernel_rfl) (by kernel_rfl) (fun _ _ _ h => h) (Or.inl ⟨by rfl, ?_⟩) ht ?_
  ·intro W9 hSw
   go_simp
  try simp only [Act.put, List.setIfInBounds_toArray, List.set_cons_zero, List.set_cons_succ]
  refine wpAnyH_take (i := 8) (oi := ⟨some _, _, _, _, _, _⟩) (v := (.bool true)) rfl (by kernel_rfl) (by kernel_rfl) (by kernel_rfl) (fun _ _ _ h => h) (Or.inl ⟨by rfl, ?_⟩) ht ?_
  ·intro W9 hSw
   go_simp
  try simp only [Act.put, List.setIfInBounds_toArray, List.set_cons_zero, List.set_cons_succ]
  refine wpAnyH_take (i := 9) (oi := ⟨some _, _, _, _, _, _⟩) (v := (.agg #[.string ⟨#[]⟩, .bool true, .bool true, .slice none 0 0])) rfl (by kernel_rfl) (by kernel_rfl) (by kernel_rfl) (fun _ _ _ h => h) (Or.inl ⟨by rfl, ?_⟩) ht ?_
  ·intro W9 hSw
   go_simp
  try simp only [Act.put, List.setIfInBounds_toArray, List.set_cons_zero, List.set_cons_succ]
  refine wpAnyH_take (i := 10) (oi := ⟨some _, _, _, _, _, _⟩) (v := (.agg #[.int .i64 k_1, .bool k_2, .bool k_3, .string ⟨k_4.toArray⟩, .int .i64 k_5, .string ⟨k_6.toArray⟩, .slice k_7 k_8 k_9, .slice k_a k_b k_c])) rfl (by kernel_rfl) (by kernel_rfl) (by kernel_rfl) (fun _ _ _ h => h) (Or.inl ⟨by rfl, ?_⟩) ht ?_
  ·intro W9 hSw
   obtain ⟨b0, b1, b2, b3, b4, b5, b6, b7⟩ := (HBX.out.on hSw).eight
   have bl := (HBX.out.on hSw).lt
   go_simp
  try simp only [Act.put, List.setIfInBounds_toArray, List.set_cons_zero, List.set_cons_succ]
  refine wpAnyH_ready (rs := [11]) (by kernel_rfl) (by simp) ?_
  refine AllReadyH.cons (o := ⟨some _, _, _, _, _, _⟩) rfl (fun K hK => ?_) (AllReadyH.nil)
  go_simp
  refine (HO2.out _ ht).mono ?_
  rintro e8 w8 ⟨A8, c8, rfl, hs8, hl8, hm8, hb8⟩
  have hs := ht.trans (hb8.mono ht.size)
  clear ht hs8 hb8
  go_wp2_with fail
  refine hK.out _ _ hs (fun ht => ?_)
  clear hK K hs
  try simp only [Act.put, List.setIfInBounds_toArray, List.set_cons_zero, List.set_cons_succ]
  refine wpAnyH_take (i := 12) (oi := ⟨some _, _, _, _, _, _⟩) (v := (.int .i64 0)) rfl (by kernel_rfl) (by kernel_rfl) (by kernel_rfl) (fun _ _ _ h => h) (Or.inl ⟨by rfl, ?_⟩) ht ?_
  ·intro W9 hSw
   go_simp
  try simp only [Act.put, List.setIfInBounds_toArray, List.set_cons_zero, List.set_cons_succ]
  refine wpAnyH_take (i := 13) (oi := ⟨some _, _, _, _, _, _⟩) (v := (.bool true)) rfl (by kernel_rfl) (by kernel_rfl) (by kernel_rfl) (fun _ _ _ h => h) (Or.inl ⟨by rfl, ?_⟩) ht ?_
  ·intro W9 hSw
   go_simp
  try simp only [Act.put, List.setIfInBounds_toArray, List.set_cons_zero, List.set_cons_succ]
  refine wpAnyH_take (i := 14) (oi := ⟨some _, _, _, _, _, _⟩) (v := (.bool true)) rfl (by kernel_rfl) (by kernel_rfl) (by kernel_rfl) (fun _ _ _ h => h) (Or.inl ⟨by rfl, ?_⟩) ht ?_
  ·intro W9 hSw
   go_simp
  try simp only [Act.put, List.setIfInBounds_toArray, List.set_cons_zero, List.set_cons_succ]
  refine wpAnyH_take (i := 15) (oi := ⟨some _, _, _, _, _, _⟩) (v := (.bool true)) rfl (by kernel_rfl) (by kernel_rfl) (by kernel_rfl) (fun _ _ _ h => h) (Or.inl ⟨by rfl, ?_⟩) ht ?_
  ·intro W9 hSw
   go_simp
  try simp only [Act.put, List.setIfInBounds_toArray, List.set_cons_zero, List.set_cons_succ]
  refine wpAnyH_done (by kernel_rfl) ?_ _
  have HZ := Lib.hid (HBZ.out.trans (ht.mono HBZ.out.size))
  clear ht
  go_wp2_with fail
  go_ret
  exact ⟨rfl, HZ.out⟩
 ·go_simp
  refine via14 (K := K) (fun W9 => Below wz.heap.size wz W9 ∧ Strs W9.cell? (some ⟨wd.heap.size, 0, none⟩) [Ow.kMin]) ⟨ht.alloc ht.size _, strs_one10 wd _ Ow.kMin⟩ ?_
  rintro w6 ⟨ht1, hx3⟩
  have HX3 := Lib.hid hx3
  clear hx3
  refine hK.out _ _ ht1 (fun ht => ?_)
  clear hK K ht1
  try simp only [Act.put, List.setIfInBounds_toArray, List.set_cons_zero, List.set_cons_succ]
  obtain ⟨g3, hg3⟩ : ∃ g, g = wd.heap.size := ⟨_, rfl⟩
  rw [← hg3] at HX3 ⊢
  clear hg3
  refine wpAnyH_ready (rs := [4]) (by kernel_rfl) (by simp) ?_
  refine AllReadyH.cons (o := ⟨some _, _, _, _, _, _⟩) rfl (fun K hK => ?_) (AllReadyH.nil)
  go_simp
  refine (HO1.out _ ht).mono ?_
  rintro e5 w5 ⟨A5, c5, rfl, hs5, hl5, hm5, hb5⟩
  have hs := ht.trans (hb5.mono ht.size)
  have HS5 := Lib.hid hs5
  have HL5 := Lib.hid hl5
  have HM5 := Lib.hid hm5
  have HX3b := Lib.hid (HX3.out.keep (le_below hb5))
  clear HX3
  have HX3 := HX3b
  clear HX3b
  clear hs5 hl5 hm5 hb5 ht
  go_wp2_with fail
  refine hK.out _ _ hs (fun ht => ?_)
  clear hK K hs
  try simp only [Act.put, List.setIfInBounds_toArray, List.set_cons_zero, List.set_cons_succ]
  refine wpAnyH_ready (rs := [6]) (by kernel_rfl) (by simp) ?_
  refine AllReadyH.cons (o := ⟨some _, _, _, _, _, _⟩) rfl (fun K hK => ?_) (AllReadyH.nil)
  go_simp
  refine (lawNames_any [Ow.kMin] [Ow.kMin] A5 (some ⟨g3, 0, none⟩) c5 1 _ HS5.out HX3.out HL5.out HM5.out (Nat.le_refl _) (by unfold maxLen; omega)).mono ?_
  rintro e7 w7 ⟨rfl, hb7⟩
  have hs := ht.trans (hb7.mono ht.size)
  rw [if_pos rfl]
  clear ht hb7 HS5 HX3
  go_wp2_with fail
  refine hK.out _ _ hs (fun ht => ?_)
  clear hK K hs
  try simp only [Act.put, List.setIfInBounds_toArray, List.set_cons_zero, List.set_cons_succ]
  refine wpAnyH_take (i := 7) (oi := ⟨some _, _, _, _, _, _⟩) (v := (.bool true)) rfl (by kernel_rfl) (by kernel_rfl) (by kernel_rfl) (fun _ _ _ h => h) (Or.inl ⟨by rfl, ?_⟩) ht ?_
  ·intro W9 hSw
   go_simp
  try simp only [Act.put, List.setIfInBounds_toArray, List.set_cons_zero, List.set_cons_succ]
  refine wpAnyH_take (i := 8) (oi := ⟨some _, _, _, _, _, _⟩) (v := (.bool true)) rfl (by kernel_rfl) (by kernel_rfl) (by kernel_rfl) (fun _ _ _ h => h) (Or.inl ⟨by rfl, ?_⟩) ht ?_
  ·intro W9 hSw
   go_simp
  try simp only [Act.put, List.setIfInBounds_toArray, List.set_cons_zero, List.set_cons_succ]
  refine wpAnyH_take (i := 9) (oi := ⟨some _, _, _, _, _, _⟩) (v := (.agg #[.string ⟨#[]⟩, .bool true, .bool true, .slice none 0 0])) rfl (by kernel_rfl) (by kernel_rfl) (by kernel_rfl) (fun _ _ _ h => h) (Or.inl ⟨by rfl, ?_⟩) ht ?_
  ·intro W9 hSw
   go_simp
  try simp only [Act.put, List.setIfInBounds_toArray, List.set_cons_zero, List.set_cons_succ]
  refine wpAnyH_take (i := 10) (oi := ⟨some _, _, _, _, _, _⟩) (v := (.agg #[.int .i64 k_1, .bool k_2, .bool k_3, .string ⟨k_4.toArray⟩, .int .i64 k_5, .string ⟨k_6.toArray⟩, .slice k_7 k_8 k_9, .slice k_a k_b k_c])) rfl (by kernel_rfl) (by kernel_rfl) (by kernel_rfl) (fun _ _ _ h => h) (Or.inl ⟨by rfl, ?_⟩) ht ?_
  ·intro W9 hSw
   obtain ⟨b0, b1, b2, b3, b4, b5, b6, b7⟩ := (HBX.out.on hSw).eight
   have bl := (HBX.out.on hSw).lt
   go_simp
  try simp only [Act.put, List.setIfInBounds_toArray, List.set_cons_zero, List.set_cons_succ]
  refine wpAnyH_ready (rs := [11]) (by kernel_rfl) (by simp) ?_
  refine AllReadyH.cons (o := ⟨some _, _, _, _, _, _⟩) rfl (fun K hK => ?_) (AllReadyH.nil)
  go_simp
  refine (HO2.out _ ht).mono ?_
  rintro e8 w8 ⟨A8, c8, rfl, hs8, hl8, hm8, hb8⟩
  have hs := ht.trans (hb8.mono ht.size)
  clear ht hs8 hb8
  go_wp2_with fail
  refine hK.out _ _ hs (fun ht => ?_)
  clear hK K hs
  try simp only [Act.put, List.setIfInBounds_toArray, List.set_cons_zero, List.set_cons_succ]
  refine wpAnyH_take (i := 12) (oi := ⟨some _, _, _, _, _, _⟩) (v := (.int .i64 0)) rfl (by kernel_rfl) (by kernel_rfl) (by kernel_rfl) (fun _ _ _ h => h) (Or.inl ⟨by rfl, ?_⟩) ht ?_
  ·intro W9 hSw
   go_simp
  try simp only [Act.put, List.setIfInBounds_toArray, List.set_cons_zero, List.set_cons_succ]
  refine wpAnyH_take (i := 13) (oi := ⟨some _, _, _, _, _, _⟩) (v := (.bool true)) rfl (by kernel_rfl) (by kernel_rfl) (by kernel_rfl) (fun _ _ _ h => h) (Or.inl ⟨by rfl, ?_⟩) ht ?_
  ·intro W9 hSw
   go_simp
  try simp only [Act.put, List.setIfInBounds_toArray, List.set_cons_zero, List.set_cons_succ]
  refine wpAnyH_take (i := 14) (oi := ⟨some _, _, _, _, _, _⟩) (v := (.bool true)) rfl (by kernel_rfl) (by kernel_rfl) (by kernel_rfl) (fun _ _ _ h => h) (Or.inl ⟨by rfl, ?_⟩) ht ?_
  ·intro W9 hSw
   go_simp
  try simp only [Act.put, List.setIfInBounds_toArray, List.set_cons_zero, List.set_cons_succ]
  refine wpAnyH_take (i := 15) (oi := ⟨some _, _, _, _, _, _⟩) (v := (.bool true)) rfl (by kernel_rfl) (by kernel_rfl) (by kernel_rfl) (fun _ _ _ h => h) (Or.inl ⟨by rfl, ?_⟩) ht ?_
  ·intro W9 hSw
   go_simp
  try simp only [Act.put, List.setIfInBounds_toArray, List.set_cons_zero, List.set_cons_succ]
  refine wpAnyH_done (by kernel_rfl) ?_ _
  have HZ := Lib.hid (HBZ.out.trans (ht.mono HBZ.out.size))
  clear ht
  go_wp2_with fail
  go_ret
  exact ⟨rfl, HZ.out⟩

end Go.Proofs.YtolkfgikomminaaGreatDoor

