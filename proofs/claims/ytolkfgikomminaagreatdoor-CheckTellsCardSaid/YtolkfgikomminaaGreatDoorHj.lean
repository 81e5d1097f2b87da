/- The laws of layer 14 (check), given what the program's Own is to do: CheckTells. (By gen_hj.py.) -/
import Derived.Test.YtolkfgikomminaaGreatDoorHg
import Derived.Test.YtolkfgikomminaaGreatDoorHi
import Derived.Test.YtolkfgikomminaaGreatDoorCf
namespace Go.Proofs.YtolkfgikomminaaGreatDoor
open Go.RowKit Js Pt

def OwnP (l : List (List UInt8)) (w : World) (e : Ending) (w' : World) : Prop := ∃ (A : Option Addr) (c : Nat), e = .returned (.slice A l.length c) ∧ Strs w'.cell? A l ∧ l.length ≤ c ∧ c ≤ maxLen ∧ Below w.heap.size w w'
def OwnT (G : World → Prop) : Prop := ∀ (P : Cm.Names) (tx : List UInt8) (nall npass : Bool) (keys : List Cm.Key) (A2 : Option Addr) (c2 : Nat) (v : Vl) (xv : Value) (w : World), G w → SlKey w.cell? A2 keys → keys.length ≤ c2 → c2 ≤ maxLen → keys.length ≤ 1000000 → (∀ K ∈ keys, Wide K.v) → Wide v → v.In w.cell? xv → (nall = true → keys = []) →
 Calls Tryz.prog 9 #[.agg #[.string ⟨tx.toArray⟩, .bool nall, .bool npass, .slice A2 keys.length c2], xv] w (OwnP (Ow.own ⟨P, nall, npass, keys⟩ v) w)
theorem refOwn_told (P : Cm.Names) (nall npass : Bool) (keys : List Cm.Key) (tx : List UInt8) (A2 : Option Addr) (c2 : Nat) (v : Vl) (xv : Value) (w : World) (hk : SlKey w.cell? A2 keys) (h1 : keys.length ≤ c2) (h2 : c2 ≤ maxLen) (h3 : keys.length ≤ 1000000) (h4 : ∀ K ∈ keys, Wide K.v) (hv : Wide v) (hxv : v.In w.cell? xv) :
  Calls Tryz.prog 10 #[.agg #[.string ⟨tx.toArray⟩, .bool nall, .bool npass, .slice A2 keys.length c2], xv] w (OwnP (Ow.own ⟨P, nall, npass, keys⟩ v) w) := by
 refine (refOwn_any P nall npass keys tx A2 c2 v xv w hk h1 h2 h3 (fun K hK => (h4 K hK).1) hv.1 hv.2.1 hv.2.2 hxv).mono ?_
 rintro e w' ⟨A, c, rfl, hs, hb⟩
 exact ⟨A, c, rfl, hs.strs, hs.le.1, hs.le.2.1, hb⟩

set_option linter.unusedVariables false in
set_option linter.unusedSimpArgs false in
set_option maxRecDepth 100000 in
set_option maxHeartbeats 8000000 in
theorem value_sure14 (s : ByteArray) (v : Vl) (u : List UInt8) (hs : s.size ≤ 2000) (hp : Ps.parse s.data.toList = .ok v u) (w : World) :
  Calls Tryz.prog 7 #[.string s] w fun e w' => ∃ x, e = .returned (.tuple #[x, .int .i64 1]) ∧ v.In w'.cell? x ∧ Below w.heap.size w w' := by
 have HPS := Lib.hid hp
 have HZ := Lib.hid (Blk.new w 31 zero8)
 have HB := Lib.hid (show Below w.heap.size w (w.alloc (.cells zero8 31)) from (Below.refl _ _).alloc (Nat.le_refl _) _)
 have HP := Lib.hid (refParse_any s (by omega) (w.alloc (.cells zero8 31)))
 have hsz : (w.alloc (.cells zero8 31)).heap.size = w.heap.size + 1 := by simp
 have t1 : decide ((2000 : Int) < (s.size : Int)) = false := by simp; omega
 clear hp
 go_enter Tryz.func7, Tryz.ntmps7
 go_wp2_with fail
 refine HP.out.mono ?_
 rintro e w3 ⟨v3, x, c, p, rfl, hin, hb3, hp3⟩
 rw [HPS.out] at hp3
 obtain ⟨rfl, rfl, _⟩ := hp3
 obtain ⟨k_1, k_2, k_3, k_4, k_5, k_6, k_7, k_8, k_9, k_a, k_b, k_c, rfl⟩ := In.cells hin
 rw [hsz] at hin hb3
 have hb4 := (Below.refl w3.heap.size w3).alloc (Nat.le_refl _) (.cells #[.int .i64 k_1, .bool k_2, .bool k_3, .string ⟨k_4.toArray⟩, .int .i64 k_5, .string ⟨k_6.toArray⟩, .slice k_7 k_8 k_9, .slice k_a k_b k_c] 31)
 have HZ4 := Lib.hid ((HZ.out.below hb3 (by omega)).on hb4)
 have HB4 := Lib.hid ((HB.out.trans (hb3.mono (by omega))).trans (hb4.mono (by have := hb3.size; have := HB.out.size; omega)))
 have BOX := Lib.hid (Blk.new w3 31 #[.int .i64 k_1, .bool k_2, .bool k_3, .string ⟨k_4.toArray⟩, .int .i64 k_5, .string ⟨k_6.toArray⟩, .slice k_7 k_8 k_9, .slice k_a k_b k_c])
 have HIN := Lib.hid (show v3.In ((w3.alloc (.cells #[.int .i64 k_1, .bool k_2, .bool k_3, .string ⟨k_4.toArray⟩, .int .i64 k_5, .string ⟨k_6.toArray⟩, .slice k_7 k_8 k_9, .slice k_a k_b k_c] 31)).on (w.heap.size + 1 ≤ ·)) (.agg #[.int .i64 k_1, .bool k_2, .bool k_3, .string ⟨k_4.toArray⟩, .int .i64 k_5, .string ⟨k_6.toArray⟩, .slice k_7 k_8 k_9, .slice k_a k_b k_c]) from In.keep (on_keep (fun _ h _ => h) (fun b _ h2 => hb4.block b h2)) _ _ hin)
 clear hin hb3 hb4 HP HB HZ
 go_upto_region 4 with (fail)
 generalize w3.alloc (.cells #[.int .i64 k_1, .bool k_2, .bool k_3, .string ⟨k_4.toArray⟩, .int .i64 k_5, .string ⟨k_6.toArray⟩, .slice k_7 k_8 k_9, .slice k_a k_b k_c] 31) = w4 at *
 obtain ⟨z0, z1, z2, z3, z4, z5, z6, z7⟩ := HZ4.out.eight
 have zf := HZ4.out.frozen
 have zl := HZ4.out.lt
 obtain ⟨y0, y1, y2, y3, y4, y5, y6, y7⟩ := BOX.out.eight
 go_wp2_with fail
 refine bodyPost_ret (results_row (l := [_, _, _, _, _, _, _, _]) rfl _ _ _ rfl (HZ4.out.set8 _ _ _ _ _ _ _ _) Tryz.underlying31 rfl (by kernel_rfl)) rfl ?_
 exact ⟨_, rfl, In.keep (le_on _ _) _ _ (in_set8 HIN.out (Nat.lt_succ_self _) (Nat.le_succ _) _ _ _ _ _ _ _ _), below_set8 HB4.out (Nat.le_refl _) _ _ _ _ _ _ _ _⟩

def Ow.two : Vl := .mk 2 false ⟨false, [50], 0⟩ [] [] []
def Ow.oneV : Vl := .mk 2 false ⟨false, [49], 0⟩ [] [] []
def Ow.exV : Vl := .mk 5 false Nm.Num.zero [] [] [(Ow.kMin, Ow.two)]
def Ow.exN : List Cm.Node := [⟨[], false, false, [⟨Ow.kMin, Ow.two, []⟩]⟩]
def Ow.exS : List UInt8 := [123, 34, 109, 105, 110, 105, 109, 117, 109, 34, 58, 50, 125]
theorem Ow.ex_parse : Ps.parse Ow.exS = .ok Ow.exV [] := by kernel_rfl
theorem Ow.ex_one : Ps.parse [49] = .ok Ow.oneV [] := by kernel_rfl
theorem Ow.ex_comp : Cm.compile Ow.exV = .ok Ow.exN := by kernel_rfl
theorem Ow.ex_link : Cm.link Ow.exN = .ok Ow.exN := by
 unfold Cm.link
 rw [show Cm.linkNodes Ow.exN Ow.exN = .ok Ow.exN by kernel_rfl]
 simp only
 rw [Cm.ring_not (out := Ow.exN) (fun q hq h => by
  have hs : ∀ a b, ¬ Cm.Step Ow.exN a b := fun a b ⟨N, hN, hb⟩ => by
   have ha : a = 0 := by have := (List.getElem?_eq_some_iff.1 hN).1; simp [Ow.exN] at this; exact this
   subst ha
   obtain rfl : (⟨[], false, false, [⟨Ow.kMin, Ow.two, []⟩]⟩ : Cm.Node) = N := by simpa [Ow.exN] using hN
   simp [Cm.nexts, Cm.keyNexts] at hb
  cases h with
  | one k => exact hs _ _ k
  | more _ k => exact hs _ _ k)]
theorem Ow.ex_sch : Cm.schR Ow.exS = (Ow.exN, 0, -1) := by
 unfold Cm.schR
 rw [Ow.ex_parse]
 simp only
 rw [Ow.ex_comp]
 simp only
 rw [Ow.ex_link]
 rfl
theorem Ow.ex_own : Ow.own ⟨[], false, false, [⟨Ow.kMin, Ow.two, []⟩]⟩ Ow.oneV = [Ow.kMin] := by kernel_rfl
theorem Ow.wide_two : Wide Ow.two := ⟨by decide, by decide, by simp [Ow.two, Vl.slim, slimL, slimM]⟩
theorem Ow.wide_one : Wide Ow.oneV := ⟨by decide, by decide, by simp [Ow.oneV, Vl.slim, slimL, slimM]⟩
theorem lawNodes_sure (s : ByteArray) (w : World) (hs : s.size ≤ 2000) {L : List Cm.Node} (h : Cm.schR s.data.toList = (L, 0, -1)) : Calls Tryz.prog 6 #[.string s] w fun e w' => ∃ (A : Option Addr) (cp : Nat), e = .returned (.tuple #[.slice A L.length cp, .int .i64 1]) ∧ SlN w'.cell? A L ∧ L.length ≤ cp ∧ cp ≤ maxLen ∧ Below w.heap.size w w' := by
 refine (lawNodes_any s w (by omega)).mono ?_
 rintro e w' ⟨hb, ⟨rfl, h2⟩ | ⟨v, a, L', A, cp, rfl, hnd, h1, h2, h3⟩⟩
 ·exfalso
  rcases h2 with h2 | h2
  ·rw [← Lib.size_eq] at h2; omega
  ·exact h2 (by rw [h])
 ·have h4 := hnd.sch
  rw [h] at h4
  injection h4 with h4 _
  subst h4
  exact ⟨A, cp, rfl, h1, h2, h3, hb⟩

set_option linter.unusedVariables false in
set_option linter.unusedSimpArgs false in
set_option maxRecDepth 100000 in
set_option maxHeartbeats 8000000 in
theorem up14_any {G : World → Prop} (hG : Stays G) (hO : OwnT G) (w : World) (hg : G w) : Calls Tryz.prog 5 #[] w fun e w' => e = .returned (.bool true) ∧ Below w.heap.size w w' := by
 have HND := Lib.hid (lawNodes_sure ⟨#[123, 34, 109, 105, 110, 105, 109, 117, 109, 34, 58, 50, 125]⟩ w (by decide) Ow.ex_sch)
 have HVS := Lib.hid (fun W => value_sure14 ⟨#[49]⟩ Ow.oneV [] (by decide) Ow.ex_one W)
 have HG := Lib.hid (fun (W : World) (h : Below w.heap.size w W) => hG _ _ hg h)
 have HO := Lib.hid hO
 clear hG hO hg
 go_enter Tryz.func5, Tryz.ntmps5
 go_wp2_with fail
 refine HND.out.mono ?_
 rintro e1 w1 ⟨A, cp, rfl, hs1, hl1, hm1, hb1⟩
 have HB1 := Lib.hid hb1
 have HS1 := Lib.hid hs1
 have hl1' : 1 ≤ cp := hl1
 unfold maxLen at hm1
 rw [show Ow.exN.length = 1 from rfl]
 clear hs1 hb1 HND hl1
 go_wp2_with fail
 refine (HVS.out w1).mono ?_
 rintro e2 w2 ⟨x, rfl, hx, hb2⟩
 obtain ⟨k_1, k_2, k_3, k_4, k_5, k_6, k_7, k_8, k_9, k_a, k_b, k_c, rfl⟩ := In.cells hx
 have hb3 := hb2.alloc hb2.size (.cells #[.int .i64 k_1, .bool k_2, .bool k_3, .string ⟨k_4.toArray⟩, .int .i64 k_5, .string ⟨k_6.toArray⟩, .slice k_7 k_8 k_9, .slice k_a k_b k_c] 31)
 have HBZ := Lib.hid (HB1.out.trans (hb3.mono HB1.out.size))
 have HBX := Lib.hid (Blk.new w2 31 #[.int .i64 k_1, .bool k_2, .bool k_3, .string ⟨k_4.toArray⟩, .int .i64 k_5, .string ⟨k_6.toArray⟩, .slice k_7 k_8 k_9, .slice k_a k_b k_c])
 have HXV := Lib.hid (In.keep (le_alloc w2 (.cells #[.int .i64 k_1, .bool k_2, .bool k_3, .string ⟨k_4.toArray⟩, .int .i64 k_5, .string ⟨k_6.toArray⟩, .slice k_7 k_8 k_9, .slice k_a k_b k_c] 31)) _ _ hx)
 have HS2 := Lib.hid (HS1.out.keep (le_below hb3))
 clear hx hb2 hb3 HS1 HVS HB1
 go_upto_region 3 with (fail)
 generalize w2.alloc (.cells #[.int .i64 k_1, .bool k_2, .bool k_3, .string ⟨k_4.toArray⟩, .int .i64 k_5, .string ⟨k_6.toArray⟩, .slice k_7 k_8 k_9, .slice k_a k_b k_c] 31) = wz at *
 generalize w2.heap.size = gv at *
 obtain ⟨g, o, cs, rfl, ⟨A2, c2, rfl, hk2, hl2, hm2⟩, hcN⟩ := HS2.out 0 _ rfl
 simp only [Nat.zero_mul, Nat.add_zero] at hcN
 have HD0 := Lib.hid (fun (W : World) (h : Below wz.heap.size wz W) => (show W.cell? ⟨g, o, none⟩ = some (.string ⟨#[]⟩) from (le_below h) _ _ (hcN 0 _ rfl)))
 have HD1 := Lib.hid (fun (W : World) (h : Below wz.heap.size wz W) => (show W.cell? ⟨g, o + 1, none⟩ = _ from (le_below h) _ _ (hcN 1 _ rfl)))
 have HD2 := Lib.hid (fun (W : World) (h : Below wz.heap.size wz W) => (show W.cell? ⟨g, o + 2, none⟩ = _ from (le_below h) _ _ (hcN 2 _ rfl)))
 have HD3 := Lib.hid (fun (W : World) (h : Below wz.heap.size wz W) => (show W.cell? ⟨g, o + 3, none⟩ = _ from (le_below h) _ _ (hcN 3 _ rfl)))
 have HO1 := Lib.hid (fun (W : World) (h : Below wz.heap.size wz W) => (show Calls Tryz.prog 9 #[.agg #[.string ⟨#[]⟩, .bool false, .bool false, .slice A2 1 c2], .agg #[.int .i64 k_1, .bool k_2, .bool k_3, .string ⟨k_4.toArray⟩, .int .i64 k_5, .string ⟨k_6.toArray⟩, .slice k_7 k_8 k_9, .slice k_a k_b k_c]] W (OwnP [Ow.kMin] W) by
  have := HO.out [] [] false false [⟨Ow.kMin, Ow.two, []⟩] A2 c2 Ow.oneV (.agg #[.int .i64 k_1, .bool k_2, .bool k_3, .string ⟨k_4.toArray⟩, .int .i64 k_5, .string ⟨k_6.toArray⟩, .slice k_7 k_8 k_9, .slice k_a k_b k_c]) W (HG.out _ (HBZ.out.trans (h.mono HBZ.out.size))) (hk2.keep (le_below h)) hl2 hm2 (by simp) (fun K hK => by rw [List.mem_singleton.1 hK]; exact Ow.wide_two) Ow.wide_one (In.keep (le_below h) _ _ HXV.out) (fun h => by cases h)
  rwa [Ow.ex_own] at this))
 have HO2 := Lib.hid (fun (W : World) (h : Below wz.heap.size wz W) => (show Calls Tryz.prog 9 #[.agg #[.string ⟨#[]⟩, .bool true, .bool true, .slice none 0 0], .agg #[.int .i64 k_1, .bool k_2, .bool k_3, .string ⟨k_4.toArray⟩, .int .i64 k_5, .string ⟨k_6.toArray⟩, .slice k_7 k_8 k_9, .slice k_a k_b k_c]] W (OwnP [] W) by
  have := HO.out [] [] true true [] none 0 Ow.oneV (.agg #[.int .i64 k_1, .bool k_2, .bool k_3, .string ⟨k_4.toArray⟩, .int .i64 k_5, .string ⟨k_6.toArray⟩, .slice k_7 k_8 k_9, .slice k_a k_b k_c]) W (HG.out _ (HBZ.out.trans (h.mono HBZ.out.size))) (fun i K h => by simp at h) (Nat.le_refl _) (by unfold maxLen; omega) (by simp) (fun K hK => by cases hK) Ow.wide_one (In.keep (le_below h) _ _ HXV.out) (fun _ => rfl)
  rwa [Ow.own_pass] at this))
 clear hcN hk2 hl2 hm2 HO HG HS2 HXV
 go_upto_region 5 with (fail)
 refine wp_region_held_drew (S := fun W9 => Below wz.heap.size wz W9) (by kernel_rfl) (show Below wz.heap.size wz wz.drew from below_drewN (Below.refl _ _) 1) (fun ht => ?_)
 generalize wz.drew = wd at *
 refine wpAnyH_take (i := 0) (oi := ⟨some _, _, _, _, _, _⟩) (v := (.slice (some ⟨g, o, none⟩) 1 cp)) rfl (by kernel_rfl) (by kernel_rfl) (by kernel_rfl) (fun _ _ _ h => h) (Or.inl ⟨by rfl, ?_⟩) ht ?_
 ·intro W9 hSw
  go_simp
 try simp only [Act.put, List.setIfInBounds_toArray, List.set_cons_zero, List.set_cons_succ]
 refine wpAnyH_take (i := 1) (oi := ⟨some _, _, _, _, _, _⟩) (v := (.pointer (some ⟨g, o, none⟩))) rfl (by kernel_rfl) (by kernel_rfl) (by kernel_rfl) (fun _ _ _ h => h) (Or.inl ⟨by rfl, ?_⟩) ht ?_
 ·intro W9 hSw
  go_simp
 try simp only [Act.put, List.setIfInBounds_toArray, List.set_cons_zero, List.set_cons_succ]
 refine wpAnyH_take (i := 2) (oi := ⟨some _, _, _, _, _, _⟩) (v := (.agg #[.string ⟨#[]⟩, .bool false, .bool false, .slice A2 1 c2])) rfl (by kernel_rfl) (by kernel_rfl) (by kernel_rfl) (fun _ _ _ h => h) (Or.inl ⟨by rfl, ?_⟩) ht ?_
 ·intro W9 hSw
  have d0 := HD0.out W9 hSw
  have d1 := HD1.out W9 hSw
  have d2 := HD2.out W9 hSw
  have d3 := HD3.out W9 hSw
  have hgl := World.block_lt_of_cell? _ _ d0
  go_simp
 try simp only [Act.put, List.setIfInBounds_toArray, List.set_cons_zero, List.set_cons_succ]
 refine wpAnyH_take (i := 3) (oi := ⟨some _, _, _, _, _, _⟩) (v := (.agg #[.int .i64 k_1, .bool k_2, .bool k_3, .string ⟨k_4.toArray⟩, .int .i64 k_5, .string ⟨k_6.toArray⟩, .slice k_7 k_8 k_9, .slice k_a k_b k_c])) rfl (by kernel_rfl) (by kernel_rfl) (by kernel_rfl) (fun _ _ _ h => h) (Or.inl ⟨by rfl, ?_⟩) ht ?_
 ·intro W9 hSw
  obtain ⟨b0, b1, b2, b3, b4, b5, b6, b7⟩ := (HBX.out.on hSw).eight
  have bl := (HBX.out.on hSw).lt
  go_simp
 try simp only [Act.put, List.setIfInBounds_toArray, List.set_cons_zero, List.set_cons_succ]
 refine wpAnyH_ready (rs := [4, 5]) (by kernel_rfl) (by simp) ?_
 refine AllReadyH.cons (o := ⟨some _, _, _, _, _, _⟩) rfl (fun K hK => ?_) (AllReadyH.cons (o := ⟨some _, _, _, _, _, _⟩) rfl (fun K hK => ?_) (AllReadyH.nil))
 ·go_simp
  refine (HO1.out _ ht).mono ?_
  rintro e5 w5 ⟨A5, c5, rfl, hs5, hl5, hm5, hb5⟩
  have hs := ht.trans (hb5.mono ht.size)
  have HS5 := Lib.hid hs5
  have HL5 := Lib.hid hl5
  have HM5 := Lib.hid hm5
  clear hs5 hl5 hm5 hb5 ht
  go_wp2_with fail
  refine hK.out _ _ hs (fun ht => ?_)
  clear hK K hs
  try simp only [Act.put, List.setIfInBounds_toArray, List.set_cons_zero, List.set_cons_succ]
  refine wpAnyH_ready (rs := [5]) (by kernel_rfl) (by simp) ?_
  refine AllReadyH.cons (o := ⟨some _, _, _, _, _, _⟩) rfl (fun K hK => ?_) (AllReadyH.nil)
  go_simp
  refine via14 (K := K) (fun W9 => Below wz.heap.size wz W9 ∧ Strs W9.cell? (some ⟨w5.heap.size, 0, none⟩) [Ow.kMin] ∧ Strs W9.cell? A5 [Ow.kMin]) ⟨ht.alloc ht.size _, strs_one10 w5 _ Ow.kMin, HS5.out.keep (le_below ((Below.refl _ _).alloc (Nat.le_refl _) _))⟩ ?_
  rintro w6 ⟨ht1, hx3, hs5⟩
  have HX3 := Lib.hid hx3
  clear HS5
  have HS5 := Lib.hid hs5
  clear hs5
  clear hx3
  refine hK.out _ _ ht1 (fun ht => ?_)
  clear hK K ht1
  try simp only [Act.put, List.setIfInBounds_toArray, List.set_cons_zero, List.set_cons_succ]
  obtain ⟨g3, hg3⟩ : ∃ g, g = w5.heap.size := ⟨_, rfl⟩
  rw [← hg3] at HX3 ⊢
  clear hg3
  refine wpAnyH_ready (rs := [6]) (by kernel_rfl) (by simp) ?_
  refine AllReadyH.cons (o := ⟨some _, _, _, _, _, _⟩) rfl (fun K hK => ?_) (AllReadyH.nil)
  go_simp
  refine (lawNames_any [Ow.kMin] [Ow.kMin] A5 (some ⟨g3, 0, none⟩) c5 1 _ HS5.out HX3.out HL5.out HM5.out (Nat.le_refl _) (by unfold maxLen; omega)).mono ?_
  rintro e7 w7 ⟨rfl, hb7⟩
  have hs := ht.trans (hb7.mono ht.size)
  rw [if_pos rfl]
  clear ht hb7 HS5 HX3
  go_wp2_with fail
  refine hK.out _ _ hs (fun ht => ?_)
  clear hK K hs
  try simp only [Act.put, List.setIfInBounds_toArray, List.set_cons_zero, List.set_cons_succ]
  refine wpAnyH_take (i := 7) (oi := ⟨some _, _, _, _, _, _⟩) (v := (.bool true)) rfl (by kernel_rfl) (by kernel_rfl) (by kernel_rfl) (fun _ _ _ h => h) (Or.inl ⟨by rfl, ?_⟩) ht ?_
  ·intro W9 hSw
   go_simp
  try simp only [Act.put, List.setIfInBounds_toArray, List.set_cons_zero, List.set_cons_succ]
  refine wpAnyH_take (i := 8) (oi := ⟨some _, _, _, _, _, _⟩) (v := (.bool true)) rfl (by kernel_rfl) (by kernel_rfl) (by kernel_rfl) (fun _ _ _ h => h) (Or.inl ⟨by rfl, ?_⟩) ht ?_
  ·intro W9 hSw
   go_simp
  try simp only [Act.put, List.setIfInBounds_toArray, List.set_cons_zero, List.set_cons_succ]
  refine wpAnyH_take (i := 9) (oi := ⟨some _, _, _, _, _, _⟩) (v := (.agg #[.string ⟨#[]⟩, .bool true, .bool true, .slice none 0 0])) rfl (by kernel_rfl) (by kernel_rfl) (by kernel_rfl) (fun _ _ _ h => h) (Or.inl ⟨by rfl, ?_⟩) ht ?_
  ·intro W9 hSw
   go_simp
  try simp only [Act.put, List.setIfInBounds_toArray, List.set_cons_zero, List.set_cons_succ]
  refine wpAnyH_take (i := 10) (oi := ⟨some _, _, _, _, _, _⟩) (v := (.agg #[.int .i64 k_1, .bool k_2, .bool k_3, .string ⟨k_4.toArray⟩, .int .i64 k_5, .string ⟨k_6.toArray⟩, .slice k_7 k_8 k_9, .slice k_a k_b k_c])) rfl (by kernel_rfl) (by kernel_rfl) (by kernel_rfl) (fun _ _ _ h => h) (Or.inl ⟨by rfl, ?_⟩) ht ?_
  ·intro W9 hSw
   obtain ⟨b0, b1, b2, b3, b4, b5, b6, b7⟩ := (HBX.out.on hSw).eight
   have bl := (HBX.out.on hSw).lt
   go_simp
  try simp only [Act.put, List.setIfInBounds_toArray, List.set_cons_zero, List.set_cons_succ]
  refine wpAnyH_ready (rs := [11]) (by kernel_rfl) (by simp) ?_
  refine AllReadyH.cons (o := ⟨some _, _, _, _, _, _⟩) rfl (fun K hK => ?_) (AllReadyH.nil)
  go_simp
  refine (HO2.out _ ht).mono ?_
  rintro e8 w8 ⟨A8, c8, rfl, hs8, hl8, hm8, hb8⟩
  have hs := ht.trans (hb8.mono ht.size)
  clear ht hs8 hb8
  go_wp2_with fail
  refine hK.out _ _ hs (fun ht => ?_)
  clear hK K hs
  try simp only [Act.put, List.setIfInBounds_toArray, List.set_cons_zero, List.set_cons_succ]
  refine wpAnyH_take (i := 12) (oi := ⟨some _, _, _, _, _, _⟩) (v := (.int .i64 0)) rfl (by kernel_rfl) (by kernel_rfl) (by kernel_rfl) (fun _ _ _ h => h) (Or.inl ⟨by rfl, ?_⟩) ht ?_
  ·intro W9 hSw
   go_simp
  try simp only [Act.put, List.setIfInBounds_toArray, List.set_cons_zero, List.set_cons_succ]
  refine wpAnyH_take (i := 13) (oi := ⟨some _, _, _, _, _, _⟩) (v := (.bool true)) rfl (by kernel_rfl) (by kernel_rfl) (by kernel_rfl) (fun _ _ _ h => h) (Or.inl ⟨by rfl, ?_⟩) ht ?_
  ·intro W9 hSw
   go_simp
  try simp only [Act.put, List.setIfInBounds_toArray, List.set_cons_zero, List.set_cons_succ]
  refine wpAnyH_take (i := 14) (oi := ⟨some _, _, _, _, _, _⟩) (v := (.bool true)) rfl (by kernel_rfl) (by kernel_rfl) (by kernel_rfl) (fun _ _ _ h => h) (Or.inl ⟨by rfl, ?_⟩) ht ?_
  ·intro W9 hSw
   go_simp
  try simp only [Act.put, List.setIfInBounds_toArray, List.set_cons_zero, List.set_cons_succ]
  refine wpAnyH_take (i := 15) (oi := ⟨some _, _, _, _, _, _⟩) (v := (.bool true)) rfl (by kernel_rfl) (by kernel_rfl) (by kernel_rfl) (fun _ _ _ h => h) (Or.inl ⟨by rfl, ?_⟩) ht ?_
  ·intro W9 hSw
   go_simp
  try simp only [Act.put, List.setIfInBounds_toArray, List.set_cons_zero, List.set_cons_succ]
  refine wpAnyH_done (by kernel_rfl) ?_ _
  have HZ := Lib.hid (HBZ.out.trans (ht.mono HBZ.out.size))
  clear ht
  go_wp2_with fail
  go_ret
  exact ⟨rfl, HZ.out⟩
 ·go_simp
  refine via14 (K := K) (fun W9 => Below wz.heap.size wz W9 ∧ Strs W9.cell? (some ⟨wd.heap.size, 0, none⟩) [Ow.kMin]) ⟨ht.alloc ht.size _, strs_one10 wd _ Ow.kMin⟩ ?_
  rintro w6 ⟨ht1, hx3⟩
  have HX3 := Lib.hid hx3
  clear hx3
  refine hK.out _ _ ht1 (fun ht => ?_)
  clear hK K ht1
  try simp only [Act.put, List.setIfInBounds_toArray, List.set_cons_zero, List.set_cons_succ]
  obtain ⟨g3, hg3⟩ : ∃ g, g = wd.heap.size := ⟨_, rfl⟩
  rw [← hg3] at HX3 ⊢
  clear hg3
  refine wpAnyH_ready (rs := [4]) (by kernel_rfl) (by simp) ?_
  refine AllReadyH.cons (o := ⟨some _, _, _, _, _, _⟩) rfl (fun K hK => ?_) (AllReadyH.nil)
  go_simp
  refine (HO1.out _ ht).mono ?_
  rintro e5 w5 ⟨A5, c5, rfl, hs5, hl5, hm5, hb5⟩
  have hs := ht.trans (hb5.mono ht.size)
  have HS5 := Lib.hid hs5
  have HL5 := Lib.hid hl5
  have HM5 := Lib.hid hm5
  have HX3b := Lib.hid (HX3.out.keep (le_below hb5))
  clear HX3
  have HX3 := HX3b
  clear HX3b
  clear hs5 hl5 hm5 hb5 ht
  go_wp2_with fail
  refine hK.out _ _ hs (fun ht => ?_)
  clear hK K hs
  try simp only [Act.put, List.setIfInBounds_toArray, List.set_cons_zero, List.set_cons_succ]
  refine wpAnyH_ready (rs := [6]) (by kernel_rfl) (by simp) ?_
  refine AllReadyH.cons (o := ⟨some _, _, _, _, _, _⟩) rfl (fun K hK => ?_) (AllReadyH.nil)
  go_simp
  refine (lawNames_any [Ow.kMin] [Ow.kMin] A5 (some ⟨g3, 0, none⟩) c5 1 _ HS5.out HX3.out HL5.out HM5.out (Nat.le_refl _) (by unfold maxLen; omega)).mono ?_
  rintro e7 w7 ⟨rfl, hb7⟩
  have hs := ht.trans (hb7.mono ht.size)
  rw [if_pos rfl]
  clear ht hb7 HS5 HX3
  go_wp2_with fail
  refine hK.out _ _ hs (fun ht => ?_)
  clear hK K hs
  try simp only [Act.put, List.setIfInBounds_toArray, List.set_cons_zero, List.set_cons_succ]
  refine wpAnyH_take (i := 7) (oi := ⟨some _, _, _, _, _, _⟩) (v := (.bool true)) rfl (by kernel_rfl) (by kernel_rfl) (by kernel_rfl) (fun _ _ _ h => h) (Or.inl ⟨by rfl, ?_⟩) ht ?_
  ·intro W9 hSw
   go_simp
  try simp only [Act.put, List.setIfInBounds_toArray, List.set_cons_zero, List.set_cons_succ]
  refine wpAnyH_take (i := 8) (oi := ⟨some _, _, _, _, _, _⟩) (v := (.bool true)) rfl (by kernel_rfl) (by kernel_rfl) (by kernel_rfl) (fun _ _ _ h => h) (Or.inl ⟨by rfl, ?_⟩) ht ?_
  ·intro W9 hSw
   go_simp
  try simp only [Act.put, List.setIfInBounds_toArray, List.set_cons_zero, List.set_cons_succ]
  refine wpAnyH_take (i := 9) (oi := ⟨some _, _, _, _, _, _⟩) (v := (.agg #[.string ⟨#[]⟩, .bool true, .bool true, .slice none 0 0])) rfl (by kernel_rfl) (by kernel_rfl) (by kernel_rfl) (fun _ _ _ h => h) (Or.inl ⟨by rfl, ?_⟩) ht ?_
  ·intro W9 hSw
   go_simp
  try simp only [Act.put, List.setIfInBounds_toArray, List.set_cons_zero, List.set_cons_succ]
  refine wpAnyH_take (i := 10) (oi := ⟨some _, _, _, _, _, _⟩) (v := (.agg #[.int .i64 k_1, .bool k_2, .bool k_3, .string ⟨k_4.toArray⟩, .int .i64 k_5, .string ⟨k_6.toArray⟩, .slice k_7 k_8 k_9, .slice k_a k_b k_c])) rfl (by kernel_rfl) (by kernel_rfl) (by kernel_rfl) (fun _ _ _ h => h) (Or.inl ⟨by rfl, ?_⟩) ht ?_
  ·intro W9 hSw
   obtain ⟨b0, b1, b2, b3, b4, b5, b6, b7⟩ := (HBX.out.on hSw).eight
   have bl := (HBX.out.on hSw).lt
   go_simp
  try simp only [Act.put, List.setIfInBounds_toArray, List.set_cons_zero, List.set_cons_succ]
  refine wpAnyH_ready (rs := [11]) (by kernel_rfl) (by simp) ?_
  refine AllReadyH.cons (o := ⟨some _, _, _, _, _, _⟩) rfl (fun K hK => ?_) (AllReadyH.nil)
  go_simp
  refine (HO2.out _ ht).mono ?_
  rintro e8 w8 ⟨A8, c8, rfl, hs8, hl8, hm8, hb8⟩
  have hs := ht.trans (hb8.mono ht.size)
  clear ht hs8 hb8
  go_wp2_with fail
  refine hK.out _ _ hs (fun ht => ?_)
  clear hK K hs
  try simp only [Act.put, List.setIfInBounds_toArray, List.set_cons_zero, List.set_cons_succ]
  refine wpAnyH_take (i := 12) (oi := ⟨some _, _, _, _, _, _⟩) (v := (.int .i64 0)) rfl (by kernel_rfl) (by kernel_rfl) (by kernel_rfl) (fun _ _ _ h => h) (Or.inl ⟨by rfl, ?_⟩) ht ?_
  ·intro W9 hSw
   go_simp
  try simp only [Act.put, List.setIfInBounds_toArray, List.set_cons_zero, List.set_cons_succ]
  refine wpAnyH_take (i := 13) (oi := ⟨some _, _, _, _, _, _⟩) (v := (.bool true)) rfl (by kernel_rfl) (by kernel_rfl) (by kernel_rfl) (fun _ _ _ h => h) (Or.inl ⟨by rfl, ?_⟩) ht ?_
  ·intro W9 hSw
   go_simp
  try simp only [Act.put, List.setIfInBounds_toArray, List.set_cons_zero, List.set_cons_succ]
  refine wpAnyH_take (i := 14) (oi := ⟨some _, _, _, _, _, _⟩) (v := (.bool true)) rfl (by kernel_rfl) (by kernel_rfl) (by kernel_rfl) (fun _ _ _ h => h) (Or.inl ⟨by rfl, ?_⟩) ht ?_
  ·intro W9 hSw
   go_simp
  try simp only [Act.put, List.setIfInBounds_toArray, List.set_cons_zero, List.set_cons_succ]
  refine wpAnyH_take (i := 15) (oi := ⟨some _, _, _, _, _, _⟩) (v := (.bool true)) rfl (by kernel_rfl) (by kernel_rfl) (by kernel_rfl) (fun _ _ _ h => h) (Or.inl ⟨by rfl, ?_⟩) ht ?_
  ·intro W9 hSw
   go_simp
  try simp only [Act.put, List.setIfInBounds_toArray, List.set_cons_zero, List.set_cons_succ]
  refine wpAnyH_done (by kernel_rfl) ?_ _
  have HZ := Lib.hid (HBZ.out.trans (ht.mono HBZ.out.size))
  clear ht
  go_wp2_with fail
  go_ret
  exact ⟨rfl, HZ.out⟩

theorem Cm.kidsN_bare {nd : Nat → Cm.Names → Vl → Cm.Res (List Cm.Node)} (hnd : ∀ off P u a, nd off P u = .ok a → u.may = true → ∀ N ∈ a, N.all = true → N.keys = []) {single : Bool} {under : Cm.Names} : ∀ {l : List Js.Mem} {off : Nat} {ks : List (List UInt8 × Nat)} {a : List Cm.Node}, Cm.kidsN nd single under off l = .ok (ks, a) → (∀ p ∈ l, p.2.may = true) → ∀ N ∈ a, N.all = true → N.keys = []
 | [], off, ks, a, e, _, N, hN => by
  rw [Cm.kidsN] at e; injection e with e; injection e with e1 e2; subst e1 e2
  cases hN
 | (key, u) :: r, off, ks, a, e, hq, N, hN => by
  obtain ⟨a1, ks2, a2, h1, h2, rfl, rfl⟩ := Cm.kidsN_cons e
  rcases List.mem_append.1 hN with k | k
  ·exact hnd _ _ _ _ h1 (hq (key, u) (by simp)) N k
  ·exact Cm.kidsN_bare hnd h2 (fun p hp => hq p (by simp [hp])) N k
theorem Cm.memsN_bare {nd : Nat → Cm.Names → Vl → Cm.Res (List Cm.Node)} (hnd : ∀ off P u a, nd off P u = .ok a → u.may = true → ∀ N ∈ a, N.all = true → N.keys = []) {P : Cm.Names} : ∀ {m : List Js.Mem} {off : Nat} {keys : List Cm.Key} {a : List Cm.Node}, Cm.memsN nd P off m = .ok (keys, a) → (∀ p ∈ m, p.2.may = true) → ∀ N ∈ a, N.all = true → N.keys = []
 | [], off, keys, a, e, _, N, hN => by
  rw [Cm.memsN] at e; injection e with e; injection e with e1 e2; subst e1 e2
  cases hN
 | (nm, w) :: r, off, keys, a, e, hq, N, hN => by
  obtain ⟨_, ks, a1, keys2, a2, h1, h2, rfl, rfl⟩ := Cm.memsN_cons e
  rcases List.mem_append.1 hN with k | k
  ·exact Cm.kidsN_bare hnd h1 (fun p hp => Cm.kids_may (hq (nm, w) (by simp)) hp) N k
  ·exact Cm.memsN_bare hnd h2 (fun p hp => hq p (by simp [hp])) N k
theorem Cm.node_bare (f : Nat) : ∀ off P u a, Cm.node f off P u = .ok a → u.may = true → ∀ N ∈ a, N.all = true → N.keys = [] := by
 induction f with
 | zero => intro off P u a h; cases h
 | succ f ih =>
  intro off P u a h hu
  obtain ⟨k, b, n, s, l, m⟩ := u
  obtain ⟨_, keys, r, h1, rfl⟩ := Cm.node_inv h
  have hm := (mayM_iff m).1 (may_own hu).2.2.2.2.2.2.2.2.2.2.1
  have h6 := (may_own hu).2.2.2.2.2.2.1
  intro N hN ha
  rcases List.mem_cons.1 hN with rfl | q
  ·have hk : k = 1 := by simpa using ha
   have hm0 := h6 (by omega)
   subst hm0
   rw [Cm.memsN] at h1
   injection h1 with h1
   injection h1 with h1 _
   exact h1.symm
  ·exact Cm.memsN_bare ih h1 (fun p hp => (hm p hp).2) N q ha
theorem Cm.compile_bare {v : Vl} {a : List Cm.Node} (h : Cm.compile v = .ok a) (hv : v.may = true) : ∀ N ∈ a, N.all = true → N.keys = [] := by
 unfold Cm.compile at h
 split at h
 ·exact Cm.node_bare _ _ _ _ _ h hv
 ·cases h
theorem Cm.nodes_wide {s : List UInt8} {v : Vl} {a L : List Cm.Node} (h : NdT s v a L) : ∀ N ∈ L, N.keys.length ≤ 1000000 ∧ (∀ K ∈ N.keys, Wide K.v) ∧ (N.all = true → N.keys = []) := by
 have hgd := Cm.good_of h.wide h.comp
 have hw : ∀ N ∈ a, ∀ K ∈ N.keys, Wide K.v := fun N hN K hK => by
  have := Cm.compile_slim h.comp h.wide.2.2 h.wide.2.1 N hN K hK
  have hm := Cm.compile_vals (Q := fun v => v.may = true) (fun k b n s l m hv p hp => by
   simp only [Vl.may, Bool.and_eq_true] at hv
   exact ((mayM_iff m).1 (by simp_all) p hp).2) (fun nm v hv p hp => Cm.kids_may hv hp) h.comp h.wide.1 N hN K hK
  exact ⟨hm, this.2, this.1⟩
 have hl := h.link
 unfold Cm.link at hl
 split at hl
 ·cases hl
 ·rename_i out ho
  split at hl
  ·cases hl
  ·injection hl with hl
   subst hl
   obtain ⟨hle, hq⟩ := Cm.linkNodes_ok ho
   intro N' hN'
   obtain ⟨k, hk⟩ := List.getElem?_of_mem hN'
   have hkl : k < a.length := by have := (List.getElem?_eq_some_iff.1 hk).1; omega
   obtain ⟨ks, e1, e2⟩ := hq k _ (List.getElem?_eq_getElem hkl)
   rw [hk] at e1
   injection e1 with e1
   subst e1
   obtain ⟨q1, q2⟩ := Cm.linkKeys_ok e2
   refine ⟨by show ks.length ≤ _; rw [q1]; exact hgd.keys _ (List.getElem_mem hkl), fun K' hK' => ?_, fun hall => ?_⟩
   ·obtain ⟨j, hj⟩ := List.getElem?_of_mem hK'
    have hj0 : ks[j]? = some K' := hj
    have hjl : j < a[k].keys.length := by have := (List.getElem?_eq_some_iff.1 hj0).1; omega
    obtain ⟨K2, e3, _, hv2, _⟩ := q2 j _ (List.getElem?_eq_getElem hjl)
    rw [hj0] at e3
    injection e3 with e3
    subst e3
    rw [hv2]
    exact hw _ (List.getElem_mem hkl) _ (List.getElem_mem hjl)
   ·have h0 := Cm.compile_bare h.comp h.wide.1 _ (List.getElem_mem hkl) hall
    rw [h0] at q1
    exact List.eq_nil_of_length_eq_zero q1

set_option linter.unusedVariables false in
set_option linter.unusedSimpArgs false in
set_option maxRecDepth 100000 in
set_option maxHeartbeats 8000000 in
theorem checkTells_any {G : World → Prop} (hG : Stays G) (hO : OwnT G) (s t : ByteArray) (w : World) (hg : G w) (hs : s.size ≤ 1000000000000000000) (ht : t.size ≤ 1000000000000000000) :
  Calls Tryz.prog 3 #[.string s, .string t] w fun e w' => e = .returned (.bool true) ∧ Below w.heap.size w w' := by
 have HU := Lib.hid (up14_any hG hO w hg)
 have HG := Lib.hid (fun (W : World) (h : Below w.heap.size w W) => hG _ _ hg h)
 have HO := Lib.hid hO
 have HNO := Lib.hid (fun W => lawNodes_any s W hs)
 have HVA := Lib.hid (fun W => value_told t ht W)
 clear hG hO hg
 go_enter Tryz.func3, Tryz.ntmps3
 go_wp2_with fail
 refine HU.out.mono ?_
 rintro e0 w0 ⟨rfl, hb0⟩
 have HB0 := Lib.hid hb0
 clear hb0 HU
 go_wp2_with fail
 refine (HNO.out w0).mono ?_
 rintro e1 w1 ⟨hb1, hcase⟩
 have HB1 := Lib.hid (HB0.out.trans (hb1.mono HB0.out.size))
 have HCA := Lib.hid hcase
 clear hb1 hcase HB0 HNO
 obtain ⟨A, cp, okN, L, hev, hprop⟩ : ∃ (A : Option Addr) (cp : Nat) (okN : Int) (L : List Cm.Node), e1 = .returned (.tuple #[.slice A L.length cp, .int .i64 okN]) ∧ (okN = 0 ∨ (okN = 1 ∧ SlN w1.cell? A L ∧ L.length ≤ cp ∧ cp ≤ maxLen ∧ ∀ N ∈ L, N.keys.length ≤ 1000000 ∧ (∀ K ∈ N.keys, Wide K.v) ∧ (N.all = true → N.keys = []))) := by
  rcases HCA.out with ⟨rfl, _⟩ | ⟨v, a, L, A, cp, rfl, hnd, h1, h2, h3⟩
  ·exact ⟨none, 0, 0, [], rfl, .inl rfl⟩
  ·exact ⟨A, cp, 1, L, rfl, .inr ⟨rfl, h1, h2, h3, Cm.nodes_wide hnd⟩⟩
 subst hev
 have HPR := Lib.hid hprop
 clear hprop HCA
 go_wp2_with fail
 refine (HVA.out w1).mono ?_
 rintro e2 w2 ⟨v, x, c, rfl, hx, hb2, hc⟩
 obtain ⟨k_1, k_2, k_3, k_4, k_5, k_6, k_7, k_8, k_9, k_a, k_b, k_c, rfl⟩ := In.cells hx
 have hb3 := hb2.alloc hb2.size (.cells #[.int .i64 k_1, .bool k_2, .bool k_3, .string ⟨k_4.toArray⟩, .int .i64 k_5, .string ⟨k_6.toArray⟩, .slice k_7 k_8 k_9, .slice k_a k_b k_c] 31)
 have HBZ := Lib.hid (HB1.out.trans (hb3.mono HB1.out.size))
 have HBX := Lib.hid (Blk.new w2 31 #[.int .i64 k_1, .bool k_2, .bool k_3, .string ⟨k_4.toArray⟩, .int .i64 k_5, .string ⟨k_6.toArray⟩, .slice k_7 k_8 k_9, .slice k_a k_b k_c])
 have HXV := Lib.hid (In.keep (le_alloc w2 (.cells #[.int .i64 k_1, .bool k_2, .bool k_3, .string ⟨k_4.toArray⟩, .int .i64 k_5, .string ⟨k_6.toArray⟩, .slice k_7 k_8 k_9, .slice k_a k_b k_c] 31)) _ _ hx)
 have HB13 := Lib.hid hb3
 have HC := Lib.hid hc
 clear hx hb2 hb3 HVA HB1 hc
 go_upto_region 4 with (fail)
 generalize w2.alloc (.cells #[.int .i64 k_1, .bool k_2, .bool k_3, .string ⟨k_4.toArray⟩, .int .i64 k_5, .string ⟨k_6.toArray⟩, .slice k_7 k_8 k_9, .slice k_a k_b k_c] 31) = wz at *
 generalize w2.heap.size = gv at *
 rcases HPR.out with rfl | ⟨rfl, hs1, hl1, hm1, hkw⟩
 ·go_wp2_with fail
  go_ret
  exact ⟨rfl, HBZ.out⟩
 rcases HC.out with rfl | ⟨rfl, hf⟩
 ·go_wp2_with fail
  go_ret
  exact ⟨rfl, HBZ.out⟩
 have HS := Lib.hid (hs1.keep (le_below HB13.out))
 have HKW := Lib.hid hkw
 have HVW := Lib.hid hf.wide
 have HLM := Lib.hid hm1
 unfold maxLen at hm1
 clear hs1 hkw hf HPR HC HB13
 go_wp2_with fail
 go_loopw [10] (fun i wr => ∃ j : Nat, j ≤ L.length ∧ i = .int .i64 j ∧ Below wz.heap.size wz wr) (fun i _ => L.length - (intOf i).toNat)
 case atStart => exact ⟨0, by omega, rfl, Below.refl _ _⟩
 case round =>
  obtain ⟨j, hj, rfl, hbr⟩ := hrel
  obtain ⟨wq, hwq⟩ : ∃ W, W = wr := ⟨_, rfl⟩
  subst hwq
  have HBR := Lib.hid hbr
  clear hbr
  by_cases hlt : j < L.length
  ·obtain ⟨g, o, cs, rfl, ⟨A2, c2, rfl, hk2, hl2, hm2⟩, hcN⟩ := HS.out j _ (List.getElem?_eq_getElem hlt)
   have HLE := Lib.hid (fun (W : World) (h : Below wq.heap.size wq W) => le_below (HBR.out.trans (h.mono HBR.out.size)))
   have HD0 := Lib.hid (fun (W : World) (h : Below wq.heap.size wq W) => (show W.cell? ⟨g, o + j * 4, none⟩ = _ from HLE.out W h _ _ (hcN 0 _ rfl)))
   have HD1 := Lib.hid (fun (W : World) (h : Below wq.heap.size wq W) => (show W.cell? ⟨g, o + j * 4 + 1, none⟩ = _ from HLE.out W h _ _ (hcN 1 _ rfl)))
   have HD2 := Lib.hid (fun (W : World) (h : Below wq.heap.size wq W) => (show W.cell? ⟨g, o + j * 4 + 2, none⟩ = _ from HLE.out W h _ _ (hcN 2 _ rfl)))
   have HD3 := Lib.hid (fun (W : World) (h : Below wq.heap.size wq W) => (show W.cell? ⟨g, o + j * 4 + 3, none⟩ = _ from HLE.out W h _ _ (hcN 3 _ rfl)))
   have HBX2 := Lib.hid (HBX.out.on HBR.out)
   have HKN := Lib.hid (HKW.out _ (List.getElem_mem hlt))
   have hjj : (j : Int) < (L.length : Int) := by omega
   clear hcN
   generalize L[j]'hlt = N at *
   obtain ⟨P, nall, npass, keys⟩ := N
   simp only at HD0 HD1 HD2 HD3 hk2 hl2 HKN
   have HO1 := Lib.hid (fun (W : World) (h : Below wq.heap.size wq W) => HO.out P (text P) nall npass keys A2 c2 v (.agg #[.int .i64 k_1, .bool k_2, .bool k_3, .string ⟨k_4.toArray⟩, .int .i64 k_5, .string ⟨k_6.toArray⟩, .slice k_7 k_8 k_9, .slice k_a k_b k_c]) W (HG.out _ (HBZ.out.trans ((HBR.out.trans (h.mono HBR.out.size)).mono HBZ.out.size))) (hk2.keep (HLE.out W h)) hl2 hm2 HKN.out.1 HKN.out.2.1 HVW.out (In.keep (HLE.out W h) _ _ HXV.out) HKN.out.2.2)
   have HO2 := Lib.hid (fun (W : World) (h : Below wq.heap.size wq W) => refOwn_told P nall npass keys (text P) A2 c2 v (.agg #[.int .i64 k_1, .bool k_2, .bool k_3, .string ⟨k_4.toArray⟩, .int .i64 k_5, .string ⟨k_6.toArray⟩, .slice k_7 k_8 k_9, .slice k_a k_b k_c]) W (hk2.keep (HLE.out W h)) hl2 hm2 HKN.out.1 HKN.out.2.1 HVW.out (In.keep (HLE.out W h) _ _ HXV.out))
   generalize text P = tx at *
   obtain ⟨own1, hown1⟩ : ∃ l, Ow.own ⟨P, nall, npass, keys⟩ v = l := ⟨_, rfl⟩
   rw [hown1] at HO1 HO2
   clear hown1 hk2 hl2 hm2
   go_upto_region 9 with (fail)
   refine wp_region_held_drew (S := fun W9 => Below wq.heap.size wq W9) (by kernel_rfl) (show Below wq.heap.size wq wq.drew from below_drewN (Below.refl _ _) 1) (fun ht => ?_)
   generalize wq.drew = wd at *
   refine wpAnyH_take (i := 0) (oi := ⟨some _, _, _, _, _, _⟩) (v := (.slice (some ⟨g, o, none⟩) L.length cp)) rfl (by kernel_rfl) (by kernel_rfl) (by kernel_rfl) (fun _ _ _ h => h) (Or.inl ⟨by rfl, ?_⟩) ht ?_
   ·intro W9 hSw
    go_simp
   try simp only [Act.put, List.setIfInBounds_toArray, List.set_cons_zero, List.set_cons_succ]
   refine wpAnyH_take (i := 1) (oi := ⟨some _, _, _, _, _, _⟩) (v := (.int .i64 j)) rfl (by kernel_rfl) (by kernel_rfl) (by kernel_rfl) (fun _ _ _ h => h) (Or.inl ⟨by rfl, ?_⟩) ht ?_
   ·intro W9 hSw
    go_simp
   try simp only [Act.put, List.setIfInBounds_toArray, List.set_cons_zero, List.set_cons_succ]
   refine wpAnyH_take (i := 2) (oi := ⟨some _, _, _, _, _, _⟩) (v := (.pointer (some ⟨g, o + j * 4, none⟩))) rfl (by kernel_rfl) (by kernel_rfl) (by kernel_rfl) (fun _ _ _ h => h) (Or.inl ⟨by rfl, ?_⟩) ht ?_
   ·intro W9 hSw
    go_simp
   try simp only [Act.put, List.setIfInBounds_toArray, List.set_cons_zero, List.set_cons_succ]
   refine wpAnyH_take (i := 3) (oi := ⟨some _, _, _, _, _, _⟩) (v := (.agg #[.string ⟨tx.toArray⟩, .bool nall, .bool npass, .slice A2 keys.length c2])) rfl (by kernel_rfl) (by kernel_rfl) (by kernel_rfl) (fun _ _ _ h => h) (Or.inl ⟨by rfl, ?_⟩) ht ?_
   ·intro W9 hSw
    have d0 := HD0.out W9 hSw
    have d1 := HD1.out W9 hSw
    have d2 := HD2.out W9 hSw
    have d3 := HD3.out W9 hSw
    have hgl := World.block_lt_of_cell? _ _ d0
    go_simp
   try simp only [Act.put, List.setIfInBounds_toArray, List.set_cons_zero, List.set_cons_succ]
   refine wpAnyH_take (i := 4) (oi := ⟨some _, _, _, _, _, _⟩) (v := (.agg #[.int .i64 k_1, .bool k_2, .bool k_3, .string ⟨k_4.toArray⟩, .int .i64 k_5, .string ⟨k_6.toArray⟩, .slice k_7 k_8 k_9, .slice k_a k_b k_c])) rfl (by kernel_rfl) (by kernel_rfl) (by kernel_rfl) (fun _ _ _ h => h) (Or.inl ⟨by rfl, ?_⟩) ht ?_
   ·intro W9 hSw
    obtain ⟨b0, b1, b2, b3, b4, b5, b6, b7⟩ := (HBX2.out.on hSw).eight
    have bl := (HBX2.out.on hSw).lt
    go_simp
   try simp only [Act.put, List.setIfInBounds_toArray, List.set_cons_zero, List.set_cons_succ]
   refine wpAnyH_take (i := 6) (oi := ⟨some _, _, _, _, _, _⟩) (v := (.slice (some ⟨g, o, none⟩) L.length cp)) rfl (by kernel_rfl) (by kernel_rfl) (by kernel_rfl) (fun _ _ _ h => h) (Or.inl ⟨by rfl, ?_⟩) ht ?_
   ·intro W9 hSw
    go_simp
   try simp only [Act.put, List.setIfInBounds_toArray, List.set_cons_zero, List.set_cons_succ]
   refine wpAnyH_take (i := 7) (oi := ⟨some _, _, _, _, _, _⟩) (v := (.int .i64 j)) rfl (by kernel_rfl) (by kernel_rfl) (by kernel_rfl) (fun _ _ _ h => h) (Or.inl ⟨by rfl, ?_⟩) ht ?_
   ·intro W9 hSw
    go_simp
   try simp only [Act.put, List.setIfInBounds_toArray, List.set_cons_zero, List.set_cons_succ]
   refine wpAnyH_take (i := 8) (oi := ⟨some _, _, _, _, _, _⟩) (v := (.pointer (some ⟨g, o + j * 4, none⟩))) rfl (by kernel_rfl) (by kernel_rfl) (by kernel_rfl) (fun _ _ _ h => h) (Or.inl ⟨by rfl, ?_⟩) ht ?_
   ·intro W9 hSw
    go_simp
   try simp only [Act.put, List.setIfInBounds_toArray, List.set_cons_zero, List.set_cons_succ]
   refine wpAnyH_take (i := 9) (oi := ⟨some _, _, _, _, _, _⟩) (v := (.agg #[.string ⟨tx.toArray⟩, .bool nall, .bool npass, .slice A2 keys.length c2])) rfl (by kernel_rfl) (by kernel_rfl) (by kernel_rfl) (fun _ _ _ h => h) (Or.inl ⟨by rfl, ?_⟩) ht ?_
   ·intro W9 hSw
    have d0 := HD0.out W9 hSw
    have d1 := HD1.out W9 hSw
    have d2 := HD2.out W9 hSw
    have d3 := HD3.out W9 hSw
    have hgl := World.block_lt_of_cell? _ _ d0
    go_simp
   try simp only [Act.put, List.setIfInBounds_toArray, List.set_cons_zero, List.set_cons_succ]
   refine wpAnyH_take (i := 10) (oi := ⟨some _, _, _, _, _, _⟩) (v := (.agg #[.int .i64 k_1, .bool k_2, .bool k_3, .string ⟨k_4.toArray⟩, .int .i64 k_5, .string ⟨k_6.toArray⟩, .slice k_7 k_8 k_9, .slice k_a k_b k_c])) rfl (by kernel_rfl) (by kernel_rfl) (by kernel_rfl) (fun _ _ _ h => h) (Or.inl ⟨by rfl, ?_⟩) ht ?_
   ·intro W9 hSw
    obtain ⟨b0, b1, b2, b3, b4, b5, b6, b7⟩ := (HBX2.out.on hSw).eight
    have bl := (HBX2.out.on hSw).lt
    go_simp
   try simp only [Act.put, List.setIfInBounds_toArray, List.set_cons_zero, List.set_cons_succ]
   refine wpAnyH_ready (rs := [5]) (by kernel_rfl) (by simp) ?_
   refine AllReadyH.cons (o := ⟨some _, _, _, _, _, _⟩) rfl (fun K hK => ?_) (AllReadyH.nil)
   go_simp
   refine (HO1.out _ ht).mono ?_
   rintro e5 w5 ⟨A5, c5, rfl, hs5, hl5, hm5, hb5⟩
   have hs := ht.trans (hb5.mono ht.size)
   have HS5 := Lib.hid hs5
   have HL5 := Lib.hid hl5
   have HM5 := Lib.hid hm5
   clear hs5 hl5 hm5 hb5 ht
   go_wp2_with fail
   refine hK.out _ _ hs (fun ht => ?_)
   clear hK K hs
   try simp only [Act.put, List.setIfInBounds_toArray, List.set_cons_zero, List.set_cons_succ]
   refine wpAnyH_ready (rs := [11]) (by kernel_rfl) (by simp) ?_
   refine AllReadyH.cons (o := ⟨some _, _, _, _, _, _⟩) rfl (fun K hK => ?_) (AllReadyH.nil)
   go_simp
   refine (HO2.out _ ht).mono ?_
   rintro e6 w6 ⟨A6, c6, rfl, hs6, hl6, hm6, hb6⟩
   have hs := ht.trans (hb6.mono ht.size)
   have HS6 := Lib.hid hs6
   have HL6 := Lib.hid hl6
   have HM6 := Lib.hid hm6
   have HS5b := Lib.hid (HS5.out.keep (le_below hb6))
   clear hs6 hl6 hm6 hb6 ht HS5
   go_wp2_with fail
   refine hK.out _ _ hs (fun ht => ?_)
   clear hK K hs
   try simp only [Act.put, List.setIfInBounds_toArray, List.set_cons_zero, List.set_cons_succ]
   refine wpAnyH_ready (rs := [12]) (by kernel_rfl) (by simp) ?_
   refine AllReadyH.cons (o := ⟨some _, _, _, _, _, _⟩) rfl (fun K hK => ?_) (AllReadyH.nil)
   go_simp
   refine (lawNames_any own1 own1 A5 A6 c5 c6 _ HS5b.out HS6.out HL5.out HM5.out HL6.out HM6.out).mono ?_
   rintro e7 w7 ⟨rfl, hb7⟩
   have hs := ht.trans (hb7.mono ht.size)
   rw [if_pos rfl]
   clear ht hb7 HS5b HS6
   go_wp2_with fail
   refine hK.out _ _ hs (fun ht => ?_)
   clear hK K hs
   try simp only [Act.put, List.setIfInBounds_toArray, List.set_cons_zero, List.set_cons_succ]
   refine wpAnyH_take (i := 13) (oi := ⟨some _, _, _, _, _, _⟩) (v := (.bool false)) rfl (by kernel_rfl) (by kernel_rfl) (by kernel_rfl) (fun _ _ _ h => h) (Or.inl ⟨by rfl, ?_⟩) ht ?_
   ·intro W9 hSw
    go_simp
   try simp only [Act.put, List.setIfInBounds_toArray, List.set_cons_zero, List.set_cons_succ]
   refine wpAnyH_done (by kernel_rfl) ?_ _
   have HB9 := Lib.hid (HBR.out.trans (ht.mono HBR.out.size))
   clear ht
   go_wp2_with fail
   go_roundw
   case rel => exact ⟨j + 1, by omega, by go_num, HB9.out⟩
   case measure => simp [intOf]; omega
  ·obtain rfl : j = L.length := by omega
   go_wp2_with fail
   go_ret
   exact ⟨rfl, HBZ.out.trans (HBR.out.mono HBZ.out.size)⟩

end Go.Proofs.YtolkfgikomminaaGreatDoor

