/- The laws of layer 6 (ptr): PtrTells. -/
import Derived.Test.YtjdkfkjkmjodlaaDoorKh
import Derived.Test.YtjdkfkjkmjodlaaDoorKg
import Derived.Test.YtjdkfkjkmjodlaaDoorMt
import Derived.Test.YtjdkfkjkmjodlaaDoorPv
import Derived.BigQuiet
import Derived.Deep.RegionHeld3
namespace Go.Proofs.YtjdkfkjkmjodlaaDoor
open Go.RowKit Pt Js

theorem own_strs {w : World} {B : Nat} {A : Option Addr} {cp : Nat} {l : List (List UInt8)} (h : w.ownsRow B 9 1 (.slice A l.length cp) l.length (strs l)) : Strs w.cell? A l ∧ l.length ≤ cp ∧ cp ≤ maxLen := by
  obtain ⟨hl, ⟨h, h0⟩ | ⟨g, cap, cur, hv, hb, hc, h1, h2, h3, h4⟩⟩ := h
  · injection h with _ _ h2
    subst h2
    refine ⟨fun i n hi => ?_, by omega, by unfold maxLen; omega⟩
    have := (List.getElem?_eq_some_iff.1 hi).1
    omega
  · injection hv with ha hn hcap
    subst hcap ha
    refine ⟨fun i n hi => ⟨g, 0, rfl, ?_⟩, h1, h2⟩
    have hil := (List.getElem?_eq_some_iff.1 hi).1
    rw [Nat.zero_add, cell_of_row w g i cur 9 (0, 0) hc]
    have hx : (strs l)[i]? = some (.string ⟨n.toArray⟩) := by simp [strs, hi]
    rw [← h4] at hx
    have hx2 := List.getElem?_eq_some_iff.1 hx
    obtain ⟨h5, h6⟩ := hx2
    rw [List.getElem_take] at h6
    rw [← Array.getElem?_toList, List.getElem?_eq_some_iff]
    exact ⟨_, h6⟩

/-- What both Parses tell of one text: the same names; no error, or the place. -/
def Both6 (t : List UInt8) (r : List (List UInt8)) (pv : Int) (k a : Int) : Prop :=
  (pv < 0 ∧ k = 0 ∧ parse t = .ok r) ∨ (0 ≤ pv ∧ k = 1 ∧ a = pv ∧ r = [])
theorem names_small {t : List UInt8} {r : List (List UInt8)} {pv k a : Int} (h : Both6 t r pv k a) (ht : t.length ≤ 500) : r.length ≤ 500 ∧ ∀ n ∈ r, n.length ≤ 500 := by
  rcases h with ⟨_, _, h⟩ | ⟨_, _, _, rfl⟩
  · obtain ⟨h1, h2⟩ := parse_back h
    refine ⟨by omega, fun n hn => ?_⟩
    obtain ⟨j, hj, rfl⟩ := List.getElem_of_mem hn
    have h3 := text_take_len r j hj
    have h4 := name_ge r[j]
    rw [h1] at h3
    omega
  · exact ⟨by simp, fun n hn => by cases hn⟩
/-- An error, and what Spot tells of it. -/
def Spots (w : World) (ev : Value) (k a : Int) : Prop := (ev = .nilIface ∧ k = 0 ∧ a = 0) ∨ ∃ b, ev = spotV b ∧ SpotAt w b a k
theorem spots_any {w : World} {ev : Value} {k a : Int} (h : Spots w ev k a) : Calls Tryd.prog 8 #[ev] w fun e w' => e = .returned (.tuple #[.int .i64 k, .int .i64 a]) ∧ Below w.heap.size w w' := by
  rcases h with ⟨rfl, rfl, rfl⟩ | ⟨b, rfl, h⟩
  · refine (spot_nil w).mono ?_
    rintro e w' ⟨rfl, rfl⟩
    exact ⟨rfl, Below.refl _ _⟩
  · exact spot_at b a k w h
theorem Spots.on {w w' : World} {ev : Value} {k a : Int} (h : Spots w ev k a) (hb : Below w.heap.size w w') : Spots w' ev k a := by
  rcases h with h | ⟨b, h1, h2, h3⟩
  · exact .inl h
  · exact .inr ⟨b, h1, le_below hb _ _ h2, le_below hb _ _ h3⟩
/-- What the law knows behind the first. -/
def First6 (t : List UInt8) (r : List (List UInt8)) (k a : Int) : Prop := (k = 0 ∧ parse t = .ok r) ∨ (∃ p : Nat, k = 1 ∧ a = p ∧ parse t = .bad p ∧ r = [])
theorem parse_parts {t : List UInt8} {w w1 : World} {e1 : Ending} (h1 : ParsePost t w e1 w1) (ht : t.length ≤ 500) :
    ∃ (r : List (List UInt8)) (A1 : Option Addr) (c1 : Nat) (ev : Value) (k a : Int), e1 = .returned (.tuple #[.slice A1 r.length c1, ev]) ∧ First6 t r k a ∧ Spots w1 ev k a ∧ Strs w1.cell? A1 r ∧ r.length ≤ c1 ∧ c1 ≤ maxLen ∧ Below w.heap.size w w1 := by
  cases hp : parse t with
  | ok r =>
    obtain ⟨A, he, hs, hb⟩ := h1.ok hp
    have hl := (parse_back hp).2
    exact ⟨r, A, r.length, .nilIface, 0, 0, he, .inl ⟨rfl, hp⟩, .inl ⟨rfl, rfl, rfl⟩, hs, Nat.le_refl _, by unfold maxLen; omega, hb⟩
  | bad p =>
    obtain ⟨b, he, hs, hb⟩ := h1.bad hp
    exact ⟨[], none, 0, spotV b, 1, p, he, .inr ⟨p, rfl, rfl, hp, rfl⟩, .inr ⟨b, rfl, hs⟩, fun i n h => by simp at h, Nat.le_refl _, by unfold maxLen; omega, hb⟩
theorem ptr_parts {t : List UInt8} {r : List (List UInt8)} {k a : Int} {w1 w2 : World} {e2 : Ending} (h1 : First6 t r k a) (h2 : PtrPost t w1 e2 w2) :
    ∃ (A2 : Option Addr) (c2 : Nat) (pv : Int), e2 = .returned (.tuple #[.slice A2 r.length c2, .int .i64 pv]) ∧ Both6 t r pv k a ∧ Strs w2.cell? A2 r ∧ r.length ≤ c2 ∧ c2 ≤ maxLen ∧ Below w1.heap.size w1 w2 := by
  obtain ⟨hb2, h2⟩ := h2
  rcases h1 with ⟨rfl, hp⟩ | ⟨p, rfl, rfl, hp, rfl⟩
  · rcases h2 with ⟨l, A2, cp, h3, he2, ho⟩ | ⟨p, h3, _⟩
    · obtain rfl := ok_inj (h3.symm.trans hp)
      obtain ⟨o1, o2, o3⟩ := own_strs ho
      exact ⟨A2, cp, -1, he2, .inl ⟨by omega, rfl, hp⟩, o1, o2, o3, hb2⟩
    · rw [hp] at h3; cases h3
  · rcases h2 with ⟨l, A2, cp, h3, _⟩ | ⟨q, h3, he2⟩
    · rw [hp] at h3; cases h3
    · obtain rfl := bad_inj (h3.symm.trans hp)
      exact ⟨none, 0, q, he2, .inr ⟨by omega, rfl, rfl, rfl⟩, fun i n h => by simp at h, Nat.le_refl _, by unfold maxLen; omega, hb2⟩

/-- What each Get tells, in parts. -/
theorem PGetPost.parts {c : Cl} {r : Option Vl} {w w' : World} {e : Ending} (h : PGetPost c r w e w') :
    ∃ (y ev : Value) (bb : Bool), e = .returned (.tuple #[y, ev]) ∧ (r.getD Ps.mkN).In c y ∧ r.isSome = bb ∧ ((bb = true ∧ ev = .nilIface) ∨ (bb = false ∧ ev = .iface 53 (.int .i64 6))) ∧ Below w.heap.size w w' := by
  obtain ⟨hb, ⟨u, y, rfl, rfl, h⟩ | ⟨rfl, y, rfl, h⟩⟩ := h
  · exact ⟨y, _, true, rfl, h, rfl, .inl ⟨rfl, rfl⟩, hb⟩
  · exact ⟨y, _, false, rfl, h, rfl, .inr ⟨rfl, rfl⟩, hb⟩
theorem GetPost.parts {c : Cl} {r : Option Vl} {w w' : World} {e : Ending} {bb : Bool} (h : GetPost c r w e w') (hbb : r.isSome = bb) :
    ∃ y : Value, e = .returned (.tuple #[y, .bool bb]) ∧ (r.getD Ps.mkN).In c y ∧ Below w.heap.size w w' := by
  obtain ⟨hb, ⟨u, y, rfl, rfl, h⟩ | ⟨rfl, y, rfl, h⟩⟩ := h
  · exact ⟨y, by rw [← hbb]; rfl, h, hb⟩
  · exact ⟨y, by rw [← hbb]; rfl, h, hb⟩

/-- How far the law has looked at the names. -/
def Sizing (l : List (List UInt8)) (w : World) (v : Value) (wr : World) : Prop :=
  ∃ j : Nat, j ≤ l.length ∧ v = .int .i64 j ∧ (∀ n ∈ l.take j, n.length ≤ 100) ∧ wr = w

set_option linter.unusedVariables false in
set_option linter.unusedSimpArgs false in
set_option maxRecDepth 100000 in
set_option maxHeartbeats 2000000 in
theorem ptrTells_any (t : List UInt8) (l : List (List UInt8)) (A : Option Addr) (e : Nat) (nm : List UInt8) (n : Int) (en : Bool) (tx : ByteArray) (w : World) (hT : MaxT w) (hs : Strs w.cell? A l) (he : l.length ≤ e) (hm : e ≤ maxLen)
    (ht : t.length ≤ 1000000000000000000) (hnm : nm.length ≤ 1000000000000000000) (htx : tx.size ≤ 1000000000000000000) :
    Calls Tryd.prog 3 #[.string ⟨t.toArray⟩, .slice A l.length e, .string ⟨nm.toArray⟩, .int .i64 n, .bool en, .string tx] w fun e w' => e = .returned (.bool true) ∧ Below w.heap.size w w' := by
  have HU := Lib.hid (up6_any w hT)
  have HT := Lib.hid hT
  have HS := Lib.hid hs
  clear hT hs
  have hee : (l.length : Int) ≤ (e : Int) := by omega
  unfold maxLen at hm
  go_enter Tryd.func3, Tryd.ntmps3
  go_wp2_with fail
  refine HU.out.mono ?_
  rintro e1 w0 ⟨rfl, hb0⟩
  have HB0 := Lib.hid hb0
  have HS0 := Lib.hid (HS.out.keep (le_below hb0))
  clear hb0 HU HS
  by_cases g1 : 500 < t.length
  · have g1' : (500 : Int) < (t.length : Int) := by omega
    go_wp2_with fail
    go_ret
    exact ⟨rfl, HB0.out⟩
  have g1' : ¬ (500 : Int) < (t.length : Int) := by omega
  by_cases g2 : 20 < l.length
  · have g2' : (20 : Int) < (l.length : Int) := by omega
    go_wp2_with fail
    go_ret
    exact ⟨rfl, HB0.out⟩
  have g2' : ¬ (20 : Int) < (l.length : Int) := by omega
  by_cases g3 : 50 < nm.length
  · have g3' : (50 : Int) < (nm.length : Int) := by omega
    go_wp2_with fail
    go_ret
    exact ⟨rfl, HB0.out⟩
  have g3' : ¬ (50 : Int) < (nm.length : Int) := by omega
  by_cases g4 : n < 0
  · go_wp2_with fail
    go_ret
    exact ⟨rfl, HB0.out⟩
  by_cases g5 : 1000000 < n
  · go_wp2_with fail
    go_ret
    exact ⟨rfl, HB0.out⟩
  obtain ⟨n, rfl⟩ : ∃ m : Nat, n = m := ⟨n.toNat, by omega⟩
  go_wp2_with fail
  go_loopw [14] (Sizing l w0) (fun v _ => l.length - (intOf v).toNat)
  case atStart => exact ⟨0, by omega, rfl, fun _ h => by simp at h, rfl⟩
  case round =>
  obtain ⟨j, hj, rfl, hsm, rfl⟩ := hrel
  have HSM := Lib.hid hsm
  clear hsm
  by_cases hlt : j < l.length
  · obtain ⟨g, o, rfl, hc⟩ := HS0.out j _ (List.getElem?_eq_getElem hlt)
    have HTK := Lib.hid (show ∀ q ∈ l.take (j + 1), q ∈ l.take j ∨ q = l[j] by
      intro q hq
      rw [List.take_succ_eq_append_getElem hlt] at hq
      rcases List.mem_append.1 hq with h | h
      · exact .inl h
      · exact .inr (List.mem_singleton.1 h))
    generalize l[j] = nj at *
    by_cases hn : 100 < nj.length
    · have hn' : (100 : Int) < (nj.length : Int) := by omega
      go_wp2_with fail
      go_ret
      exact ⟨rfl, HB0.out⟩
    · have hn' : ¬ (100 : Int) < (nj.length : Int) := by omega
      go_wp2_with fail
      go_roundw
      case rel => exact ⟨j + 1, by omega, by go_num, fun q hq => (HTK.out q hq).elim (HSM.out q) (fun h => by rw [h]; omega), rfl⟩
      case measure => simp [intOf]; omega
  obtain rfl : j = l.length := by omega
  have HNS := Lib.hid (show ∀ q ∈ l, q.length ≤ 100 by have := HSM.out; rwa [List.take_length] at this)
  clear HSM hlt
  go_wp2_with fail
  have HPP := Lib.hid (ptrParse_any t wr (HT.out.on HB0.out) (by omega))
  refine HPP.out.mono ?_
  intro e1 w1 h1
  obtain ⟨r, A1, c1, ev, k, a, rfl, hf, hsp, hs1, hc1, hc1m, hb1⟩ := parse_parts h1 (by omega)
  have HF := Lib.hid hf
  have HSP := Lib.hid hsp
  have HS1 := Lib.hid hs1
  have HB1 := Lib.hid (HB0.out.trans (hb1.mono HB0.out.size))
  have HSL := Lib.hid (HS0.out.keep (le_below hb1))
  clear h1 hf hsp hs1 hb1 HPP HS0
  go_wp2_with fail
  have HPT := Lib.hid (refPointer_any t w1 (by omega))
  refine HPT.out.mono ?_
  intro e2 w2 h2
  obtain ⟨A2, c2, pv, rfl, hbo, hs2, hc2, hc2m, hb2⟩ := ptr_parts HF.out h2
  have HBO := Lib.hid hbo
  have HS2 := Lib.hid hs2
  have HS3 := Lib.hid (HS1.out.keep (le_below hb2))
  have HSL2 := Lib.hid (HSL.out.keep (le_below hb2))
  have HB2 := Lib.hid (HB1.out.trans (hb2.mono HB1.out.size))
  have HSC := Lib.hid (spots_any (HSP.out.on hb2))
  clear h2 hbo hs2 hb2 HPT HF HSP HS1 HSL
  go_wp2_with fail
  refine HSC.out.mono ?_
  rintro e3 w3 ⟨rfl, hb3⟩
  have HB3 := Lib.hid (HB2.out.trans (hb3.mono HB2.out.size))
  have HY3 := Lib.hid (HS2.out.keep (le_below hb3))
  have HX3 := Lib.hid (HS3.out.keep (le_below hb3))
  have HSL3 := Lib.hid (HSL2.out.keep (le_below hb3))
  clear hb3 HSC HS2 HS3 HSL2
  have HNM := names_any r r A1 A2 c1 c2 w3 HX3.out HY3.out hc1 hc1m hc2 hc2m
  rw [alike_eq rfl] at HNM
  have HNM2 := Lib.hid HNM
  clear HNM
  go_upto_region 12 with (fail)
  go_cut [112] from 88 (fun v112 wc => v112 = .bool false ∧ Below w3.heap.size w3 wc)
  case first =>
    have hways : (pv < 0 ∧ ¬ (0 ≤ pv) ∧ k = 0) ∨ (¬ pv < 0 ∧ 0 ≤ pv ∧ k = 1 ∧ a = pv) := by
      rcases HBO.out with ⟨h1, h2, _⟩ | ⟨h1, h2, h3, _⟩
      · exact .inl ⟨h1, by omega, h2⟩
      · exact .inr ⟨by omega, h1, h2, h3⟩
    rcases hways with ⟨p1, p2, rfl⟩ | ⟨p1, p2, rfl, rfl⟩
    all_goals
      go_wp2_with fail
      refine HNM2.out.mono ?_
      rintro e4 w4 ⟨rfl, hb4⟩
      have hb4' : Below w3.heap.size w3 w4 := hb4
      clear hb4
      go_wp2_with fail
      go_meet
      case rel => exact ⟨rfl, hb4'⟩
  case rest =>
    obtain ⟨rfl, hbc⟩ := hcut
    have HB4 := Lib.hid (HB3.out.trans (hbc.mono HB3.out.size))
    have HY4 := Lib.hid (HY3.out.keep (le_below hbc))
    have HSL4 := Lib.hid (HSL3.out.keep (le_below hbc))
    have HNR := Lib.hid (names_small HBO.out (by omega))
    clear hbc HNM2 HX3 HY3 HSL3 HBO
    have HI1 := Lib.hid (index_any nm n en wc (by omega) (by omega))
    have HI2 := Lib.hid (fun W => refIndex_any nm n en W (by omega) (by omega))
    obtain ⟨q, hq⟩ : ∃ q, index nm n en = q := ⟨_, rfl⟩
    obtain ⟨qi, qb⟩ := q
    rw [hq] at HI1 HI2
    simp only at HI1 HI2
    clear hq
    go_wp2_with fail
    refine HI1.out.mono ?_
    rintro e5 w5 ⟨rfl, hb5⟩
    have HB5 := Lib.hid (HB4.out.trans (hb5.mono HB4.out.size))
    have HY5 := Lib.hid (HY4.out.keep (le_below hb5))
    have HSL5 := Lib.hid (HSL4.out.keep (le_below hb5))
    clear hb5 HY4 HSL4 HI1
    go_wp2_with fail
    refine (HI2.out _).mono ?_
    rintro e6 w6 ⟨rfl, rfl⟩
    clear HI2
    have htl : (text l).length ≤ 10000000 := by
      have h1 := text_len 100 l HNS.out
      have h2 : l.length * (2 * 100 + 1) ≤ 20 * (2 * 100 + 1) := Nat.mul_le_mul_right _ (by omega)
      omega
    have HSH := Lib.hid (fun W (h : Below w6.heap.size w6 W) => ptrShow_any l A e W (HT.out.on (HB5.out.trans (h.mono HB5.out.size))) (HSL5.out.keep (le_below h)) he (by unfold maxLen; omega) htl)
    have HPA := Lib.hid (fun W (h : Below w6.heap.size w6 W) => refPath_any l A e W (HSL5.out.keep (le_below h)) he (by unfold maxLen; omega) htl)
    clear htl
    go_wp2_with fail
    refine (HSH.out _ (Below.refl _ _)).mono ?_
    rintro e7 w7 ⟨rfl, hb7⟩
    have HB7 := Lib.hid hb7
    go_wp2_with fail
    refine (HPA.out _ hb7).mono ?_
    rintro e8 w8 ⟨rfl, hb8⟩
    have hb68 := HB7.out.trans (hb8.mono HB7.out.size)
    have HB8 := Lib.hid (HB5.out.trans (hb68.mono HB5.out.size))
    have HSL8 := Lib.hid (HSL5.out.keep (le_below hb68))
    have HY8 := Lib.hid (HY5.out.keep (le_below hb68))
    have hqq : ((qi : Int) != (qi : Int)) = false := by simp
    have hqb : (qb != qb) = false := by simp
    clear hb7 hb8 hb68 HB7 HSH HPA HSL5 HY5
    have HVL := Lib.hid (value_told tx htx w8)
    go_wp2_with fail
    refine HVL.out.mono ?_
    rintro e9 w9 ⟨v, x, cc, rfl, hx, hb9, hcc⟩
    obtain ⟨k_1, k_2, k_3, k_4, k_5, k_6, k_7, k_8, k_9, k_a, k_b, k_c, rfl⟩ := In.cells hx
    have hb89 := HB8.out.trans (hb9.mono HB8.out.size)
    have HBA := Lib.hid (hb89.alloc hb89.size (.cells #[.int .i64 k_1, .bool k_2, .bool k_3, .string ⟨k_4.toArray⟩, .int .i64 k_5, .string ⟨k_6.toArray⟩, .slice k_7 k_8 k_9, .slice k_a k_b k_c] 41))
    have hle9 := (le_below hb9).trans (le_alloc w9 (.cells #[.int .i64 k_1, .bool k_2, .bool k_3, .string ⟨k_4.toArray⟩, .int .i64 k_5, .string ⟨k_6.toArray⟩, .slice k_7 k_8 k_9, .slice k_a k_b k_c] 41))
    have HSLA := Lib.hid (HSL8.out.keep hle9)
    have HYA := Lib.hid (HY8.out.keep hle9)
    have HIN := Lib.hid (In.keep (le_alloc w9 (.cells #[.int .i64 k_1, .bool k_2, .bool k_3, .string ⟨k_4.toArray⟩, .int .i64 k_5, .string ⟨k_6.toArray⟩, .slice k_7 k_8 k_9, .slice k_a k_b k_c] 41)) _ _ hx)
    have HXA := Lib.hid (Blk.new w9 41 #[.int .i64 k_1, .bool k_2, .bool k_3, .string ⟨k_4.toArray⟩, .int .i64 k_5, .string ⟨k_6.toArray⟩, .slice k_7 k_8 k_9, .slice k_a k_b k_c])
    have HCC := Lib.hid hcc
    clear hx hb9 hcc hb89 hle9 HVL HSL8 HY8
    go_upto_region 19 with (fail)
    generalize w9.alloc (.cells #[.int .i64 k_1, .bool k_2, .bool k_3, .string ⟨k_4.toArray⟩, .int .i64 k_5, .string ⟨k_6.toArray⟩, .slice k_7 k_8 k_9, .slice k_a k_b k_c] 41) = wa at *
    generalize w9.heap.size = g25 at *
    rcases HCC.out with rfl | ⟨rfl, hfine⟩
    · go_wp2_with fail
      go_ret
      exact ⟨rfl, HBA.out⟩
    have hmay := hfine.1
    have hsize : v.size ≤ 1000000 := by have := hfine.2.1; omega
    have HG1 := Lib.hid (fun W (h : Below wa.heap.size wa W) => ptrGet_any wa.cell? v l _ A e W hmay hsize (le_below h) HIN.out (HSLA.out.keep (le_below h)) he (by unfold maxLen; omega) (fun q hq => by have := HNS.out q hq; omega) (by omega))
    have HG2 := Lib.hid (fun W (h : Below wa.heap.size wa W) => refGet_any l wa.cell? v _ A e W (le_below h) HIN.out (HSLA.out.keep (le_below h)) he (by unfold maxLen; omega) (fun q hq => by have := HNS.out q hq; omega) hsize)
    have HG3 := Lib.hid (fun W (h : Below wa.heap.size wa W) => ptrGet_any wa.cell? v r _ A2 c2 W hmay hsize (le_below h) HIN.out (HYA.out.keep (le_below h)) hc2 hc2m (fun q hq => by have := HNR.out.2 q hq; omega) (by have := HNR.out.1; omega))
    have HG4 := Lib.hid (fun W (h : Below wa.heap.size wa W) => refGet_any r wa.cell? v _ A2 c2 W (le_below h) HIN.out (HYA.out.keep (le_below h)) hc2 hc2m (fun q hq => by have := HNR.out.2 q hq; omega) hsize)
    generalize get v l = r1 at *
    generalize get v r = r2 at *
    clear hmay hsize hfine HCC HSLA HYA HNS HNR HIN
    obtain ⟨a0, a1, a2, a3, a4, a5, a6, a7⟩ := HXA.out.eight
    go_wp2_with fail
    refine (HG1.out _ (Below.refl _ _)).mono ?_
    intro ea wb h1
    obtain ⟨y1, ev1, bb1, rfl, hy1, hbb1, hev1, hb⟩ := h1.parts
    obtain ⟨m_1, m_2, m_3, m_4, m_5, m_6, m_7, m_8, m_9, m_a, m_b, m_c, rfl⟩ := In.cells hy1
    have HY1 := Lib.hid hy1
    have HE1 := Lib.hid hev1
    have HBB := Lib.hid (hb.alloc hb.size (.cells #[.int .i64 m_1, .bool m_2, .bool m_3, .string ⟨m_4.toArray⟩, .int .i64 m_5, .string ⟨m_6.toArray⟩, .slice m_7 m_8 m_9, .slice m_a m_b m_c] 41))
    have HXB := Lib.hid ((HXA.out.on hb).alloc (.cells #[.int .i64 m_1, .bool m_2, .bool m_3, .string ⟨m_4.toArray⟩, .int .i64 m_5, .string ⟨m_6.toArray⟩, .slice m_7 m_8 m_9, .slice m_a m_b m_c] 41))
    have HB27 := Lib.hid (Blk.new wb 41 #[.int .i64 m_1, .bool m_2, .bool m_3, .string ⟨m_4.toArray⟩, .int .i64 m_5, .string ⟨m_6.toArray⟩, .slice m_7 m_8 m_9, .slice m_a m_b m_c])
    clear hy1 hev1 hb h1 HG1 a0 a1 a2 a3 a4 a5 a6 a7
    go_upto_region 22 with (fail)
    generalize wb.alloc (.cells #[.int .i64 m_1, .bool m_2, .bool m_3, .string ⟨m_4.toArray⟩, .int .i64 m_5, .string ⟨m_6.toArray⟩, .slice m_7 m_8 m_9, .slice m_a m_b m_c] 41) = wc2 at *
    generalize wb.heap.size = g27 at *
    obtain ⟨a0, a1, a2, a3, a4, a5, a6, a7⟩ := HXB.out.eight
    go_wp2_with fail
    refine (HG2.out _ HBB.out).mono ?_
    intro eb wd h2
    obtain ⟨y2, rfl, hy2, hb⟩ := h2.parts hbb1
    obtain ⟨n_1, n_2, n_3, n_4, n_5, n_6, n_7, n_8, n_9, n_a, n_b, n_c, rfl⟩ := In.cells hy2
    have HY2 := Lib.hid hy2
    have hbw := HBB.out.trans (hb.mono HBB.out.size)
    have HBD := Lib.hid (hbw.alloc hbw.size (.cells #[.int .i64 n_1, .bool n_2, .bool n_3, .string ⟨n_4.toArray⟩, .int .i64 n_5, .string ⟨n_6.toArray⟩, .slice n_7 n_8 n_9, .slice n_a n_b n_c] 41))
    have HXD := Lib.hid ((HXB.out.on hb).alloc (.cells #[.int .i64 n_1, .bool n_2, .bool n_3, .string ⟨n_4.toArray⟩, .int .i64 n_5, .string ⟨n_6.toArray⟩, .slice n_7 n_8 n_9, .slice n_a n_b n_c] 41))
    have HD27 := Lib.hid ((HB27.out.on hb).alloc (.cells #[.int .i64 n_1, .bool n_2, .bool n_3, .string ⟨n_4.toArray⟩, .int .i64 n_5, .string ⟨n_6.toArray⟩, .slice n_7 n_8 n_9, .slice n_a n_b n_c] 41))
    have HD29 := Lib.hid (Blk.new wd 41 #[.int .i64 n_1, .bool n_2, .bool n_3, .string ⟨n_4.toArray⟩, .int .i64 n_5, .string ⟨n_6.toArray⟩, .slice n_7 n_8 n_9, .slice n_a n_b n_c])
    clear hy2 hb hbw h2 HG2 a0 a1 a2 a3 a4 a5 a6 a7 HXB HB27 HBB
    go_upto_region 23 with (fail)
    generalize wd.alloc (.cells #[.int .i64 n_1, .bool n_2, .bool n_3, .string ⟨n_4.toArray⟩, .int .i64 n_5, .string ⟨n_6.toArray⟩, .slice n_7 n_8 n_9, .slice n_a n_b n_c] 41) = we at *
    generalize wd.heap.size = g29 at *
    obtain ⟨a0, a1, a2, a3, a4, a5, a6, a7⟩ := HXD.out.eight
    go_wp2_with fail
    refine (HG3.out _ HBD.out).mono ?_
    intro ec wf h3
    obtain ⟨y3, ev3, bb3, rfl, hy3, hbb3, hev3, hb⟩ := h3.parts
    obtain ⟨o_1, o_2, o_3, o_4, o_5, o_6, o_7, o_8, o_9, o_a, o_b, o_c, rfl⟩ := In.cells hy3
    have HY3' := Lib.hid hy3
    have HE3 := Lib.hid hev3
    have hbw := HBD.out.trans (hb.mono HBD.out.size)
    have HBF := Lib.hid (hbw.alloc hbw.size (.cells #[.int .i64 o_1, .bool o_2, .bool o_3, .string ⟨o_4.toArray⟩, .int .i64 o_5, .string ⟨o_6.toArray⟩, .slice o_7 o_8 o_9, .slice o_a o_b o_c] 41))
    have HXF := Lib.hid ((HXD.out.on hb).alloc (.cells #[.int .i64 o_1, .bool o_2, .bool o_3, .string ⟨o_4.toArray⟩, .int .i64 o_5, .string ⟨o_6.toArray⟩, .slice o_7 o_8 o_9, .slice o_a o_b o_c] 41))
    have HF27 := Lib.hid ((HD27.out.on hb).alloc (.cells #[.int .i64 o_1, .bool o_2, .bool o_3, .string ⟨o_4.toArray⟩, .int .i64 o_5, .string ⟨o_6.toArray⟩, .slice o_7 o_8 o_9, .slice o_a o_b o_c] 41))
    have HF29 := Lib.hid ((HD29.out.on hb).alloc (.cells #[.int .i64 o_1, .bool o_2, .bool o_3, .string ⟨o_4.toArray⟩, .int .i64 o_5, .string ⟨o_6.toArray⟩, .slice o_7 o_8 o_9, .slice o_a o_b o_c] 41))
    have HF31 := Lib.hid (Blk.new wf 41 #[.int .i64 o_1, .bool o_2, .bool o_3, .string ⟨o_4.toArray⟩, .int .i64 o_5, .string ⟨o_6.toArray⟩, .slice o_7 o_8 o_9, .slice o_a o_b o_c])
    clear hy3 hev3 hb hbw h3 HG3 a0 a1 a2 a3 a4 a5 a6 a7 HXD HD27 HD29 HBD
    go_upto_region 24 with (fail)
    generalize wf.alloc (.cells #[.int .i64 o_1, .bool o_2, .bool o_3, .string ⟨o_4.toArray⟩, .int .i64 o_5, .string ⟨o_6.toArray⟩, .slice o_7 o_8 o_9, .slice o_a o_b o_c] 41) = wg at *
    generalize wf.heap.size = g31 at *
    obtain ⟨a0, a1, a2, a3, a4, a5, a6, a7⟩ := HXF.out.eight
    go_wp2_with fail
    refine (HG4.out _ HBF.out).mono ?_
    intro ed wh h4
    obtain ⟨y4, rfl, hy4, hb⟩ := h4.parts hbb3
    obtain ⟨p_1, p_2, p_3, p_4, p_5, p_6, p_7, p_8, p_9, p_a, p_b, p_c, rfl⟩ := In.cells hy4
    have HY4' := Lib.hid hy4
    have hbw := HBF.out.trans (hb.mono HBF.out.size)
    have HBH := Lib.hid (hbw.alloc hbw.size (.cells #[.int .i64 p_1, .bool p_2, .bool p_3, .string ⟨p_4.toArray⟩, .int .i64 p_5, .string ⟨p_6.toArray⟩, .slice p_7 p_8 p_9, .slice p_a p_b p_c] 41))
    have HH27 := Lib.hid ((HF27.out.on hb).alloc (.cells #[.int .i64 p_1, .bool p_2, .bool p_3, .string ⟨p_4.toArray⟩, .int .i64 p_5, .string ⟨p_6.toArray⟩, .slice p_7 p_8 p_9, .slice p_a p_b p_c] 41))
    have HH29 := Lib.hid ((HF29.out.on hb).alloc (.cells #[.int .i64 p_1, .bool p_2, .bool p_3, .string ⟨p_4.toArray⟩, .int .i64 p_5, .string ⟨p_6.toArray⟩, .slice p_7 p_8 p_9, .slice p_a p_b p_c] 41))
    have HH31 := Lib.hid ((HF31.out.on hb).alloc (.cells #[.int .i64 p_1, .bool p_2, .bool p_3, .string ⟨p_4.toArray⟩, .int .i64 p_5, .string ⟨p_6.toArray⟩, .slice p_7 p_8 p_9, .slice p_a p_b p_c] 41))
    have HH33 := Lib.hid (Blk.new wh 41 #[.int .i64 p_1, .bool p_2, .bool p_3, .string ⟨p_4.toArray⟩, .int .i64 p_5, .string ⟨p_6.toArray⟩, .slice p_7 p_8 p_9, .slice p_a p_b p_c])
    clear hy4 hb hbw h4 HG4 a0 a1 a2 a3 a4 a5 a6 a7 HXF HF27 HF29 HF31 HBF HXA
    go_upto_region 25 with (fail)
    generalize wh.alloc (.cells #[.int .i64 p_1, .bool p_2, .bool p_3, .string ⟨p_4.toArray⟩, .int .i64 p_5, .string ⟨p_6.toArray⟩, .slice p_7 p_8 p_9, .slice p_a p_b p_c] 41) = wi at *
    generalize wh.heap.size = g33 at *
    have hle := le_below HBH.out
    have HSA := Lib.hid (refSame_on (q := true) (In.keep hle _ _ HY1.out) (In.keep hle _ _ HY2.out) (same_refl _))
    have HSB := Lib.hid (refSame_on (q := true) (In.keep hle _ _ HY3'.out) (In.keep hle _ _ HY4'.out) (same_refl _))
    have HBI := Lib.hid (HBA.out.trans (HBH.out.mono HBA.out.size))
    clear hle HY1 HY2 HY3' HY4' HBH HBA hbb1 hbb3
    obtain ⟨a0, a1, a2, a3, a4, a5, a6, a7⟩ := HH27.out.eight
    obtain ⟨d0, d1, d2, d3, d4, d5, d6, d7⟩ := HH29.out.eight
    go_wp2_with fail
    refine (HSA.out _ (Below.refl _ _)).mono ?_
    rintro ef wj ⟨rfl, hbj⟩
    clear a0 a1 a2 a3 a4 a5 a6 a7 d0 d1 d2 d3 d4 d5 d6 d7 HSA
    obtain ⟨a0, a1, a2, a3, a4, a5, a6, a7⟩ := (HH31.out.on hbj).eight
    obtain ⟨d0, d1, d2, d3, d4, d5, d6, d7⟩ := (HH33.out.on hbj).eight
    have HBJ := Lib.hid (HBI.out.trans (hbj.mono HBI.out.size))
    have HSB2 := Lib.hid (HSB.out _ hbj)
    clear hbj HSB
    go_upto_region 26 with (fail)
    go_wp2_with fail
    refine HSB2.out.mono ?_
    rintro eg wk ⟨rfl, hbk⟩
    have HBK := Lib.hid (HBJ.out.trans (hbk.mono HBJ.out.size))
    clear a0 a1 a2 a3 a4 a5 a6 a7 d0 d1 d2 d3 d4 d5 d6 d7 HSB2 hbk
    go_upto_region 27 with (fail)
    rcases HE1.out with ⟨rfl, rfl⟩ | ⟨rfl, rfl⟩
    · rcases HE3.out with ⟨rfl, rfl⟩ | ⟨rfl, rfl⟩
      all_goals
        go_wp2_with fail
        go_ret
        exact ⟨rfl, HBK.out⟩
    · rcases HE3.out with ⟨rfl, rfl⟩ | ⟨rfl, rfl⟩
      all_goals
        go_wp2_with fail
        refine (code_at 6 wk (by omega) (by omega)).mono ?_
        rintro eh wl ⟨rfl, rfl⟩
        go_wp2_with fail
        go_ret
        exact ⟨rfl, HBK.out⟩

end Go.Proofs.YtjdkfkjkmjodlaaDoor

