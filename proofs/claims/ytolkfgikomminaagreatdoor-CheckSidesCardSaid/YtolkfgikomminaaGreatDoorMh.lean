/- Mh: Mh Mi, in one text. -/
import Derived.Test.YtolkfgikomminaaGreatDoorWa
import Derived.Test.YtolkfgikomminaaGreatDoorMa
import Derived.Lib.Builder
import Derived.Lib.AppendStr
import Derived.Laws.Externs
import Derived.Lib.SmallJoins
import Derived.Lib.UnsafeStr
import Derived.Lib.AppendIntMem
namespace Go.Proofs.YtolkfgikomminaaGreatDoor
open Go.RowKit

abbrev partsV (p : Nm.Parts) : Value := .agg #[.bool p.neg, .string ⟨p.whole.toArray⟩, .string ⟨p.frac.toArray⟩, .bool p.expNeg, .string ⟨p.exp.toArray⟩]

set_option linter.unusedSimpArgs false in
set_option maxHeartbeats 4000000 in
theorem split_any (s : ByteArray) (w : World) (hs : s.size ≤ maxLen) :
  Calls Tryz.prog 77 #[.string s] w fun e w' => e = .returned (.tuple #[partsV (Nm.split s.data.toList).1, .bool (Nm.split s.data.toList).2]) ∧ Below w.heap.size w w' := by
 go_enter Tryz.func77, Tryz.ntmps77
 go_wp2_with fail
 refine (Tryz.strings_HasPrefix _ _ _).mono ?_
 rintro e w' ⟨rfl, rfl⟩
 generalize hneg : Lib.hasPrefix s.data.toList _ = neg
 have HN := Lib.hid hneg
 clear hneg
 go_wp2_with fail
 refine (Tryz.strings_TrimPrefix _ _ _).mono ?_
 rintro e w' ⟨rfl, rfl⟩
 generalize h1 : Lib.trimPrefix s.data.toList _ = s1
 have H1 := Lib.hid h1
 clear h1
 have hl : s.data.toList.length ≤ maxLen := by rw [← Lib.size_eq]; exact hs
 have hl1 : s1.length ≤ maxLen := by rw [← H1.out]; exact Nat.le_trans (Nm.trim_len _ _) hl
 go_wp2_with fail
 refine (cutDigits_any _ _ (by rw [Lib.size_mk]; exact hl1)).mono ?_
 rintro e w' ⟨rfl, rfl⟩
 rw [show (⟨s1.toArray⟩ : ByteArray).data.toList = s1 from rfl]
 have hl2 : (Nm.suf s1).length ≤ maxLen := Nat.le_trans (Nm.suf_len _) hl1
 generalize hwh : Nm.pre s1 = wh
 generalize hs2 : Nm.suf s1 = s2 at hl2 ⊢
 have HW := Lib.hid hwh
 have HS2 := Lib.hid hs2
 clear hwh hs2
 have HE := Lib.hid (Nm.split_eq H1.out HN.out HW.out HS2.out)
 clear HN H1 HW HS2 hl hl1 hs
 rcases wh with _ | ⟨c, r⟩
 ·go_wp2
  rw [HE.out]
  exact bodyPost_ret (v := .tuple #[partsV Nm.Parts.zero, .bool false]) (by simp [results, Tryz.results77, go_sem, partsV, Nm.Parts.zero]) rfl ⟨rfl, below_two1 _ _ _⟩
 ·have hix : ∀ h, (⟨(c :: r).toArray⟩ : ByteArray)[0]'h = c := fun _ => rfl
  by_cases hbad : 0 < r.length ∧ c = 48
  ·obtain ⟨hr, rfl⟩ := hbad
   have he : Nm.badWhole (48 :: r) = true := by simp [Nm.badWhole]; omega
   rw [if_pos he] at HE
   go_wp2
   rw [HE.out]
   exact bodyPost_ret (v := .tuple #[partsV Nm.Parts.zero, .bool false]) (by simp [results, Tryz.results77, go_sem, partsV, Nm.Parts.zero]) rfl ⟨rfl, below_two1 _ _ _⟩
  ·have he : Nm.badWhole (c :: r) = false := by
    simp only [Nm.badWhole, List.isEmpty_cons, Bool.false_or, List.head?_cons, List.length_cons, Bool.and_eq_false_iff, decide_eq_false_iff_not, beq_eq_false_iff_ne, ne_eq, Option.some.injEq]
    by_cases e : c = 48
    ·left; have : ¬ 0 < r.length := fun h => hbad ⟨h, e⟩; omega
    ·right; exact e
   rw [if_neg (by rw [he]; decide)] at HE
   have hq : ¬ 0 < r.length ∨ (0 < r.length ∧ ((c.toNat : Int) == 48) = false) := by
    by_cases h : 0 < r.length
    ·exact .inr ⟨h, Nm.byte_ne (k := 48) (fun e => hbad ⟨h, e⟩)⟩
    ·exact .inl h
   clear he hbad
   rcases hq with hq | ⟨hq, hq'⟩
   all_goals
    go_wp2_with fail
    refine (Tryz.strings_HasPrefix _ _ _).mono ?_
    rintro e w' ⟨rfl, rfl⟩
    rw [show Lib.hasPrefix (⟨s2.toArray⟩ : ByteArray).data.toList (⟨#[46]⟩ : ByteArray).data.toList = (s2.head? == some 46) from Nm.prefix_one 46 s2]
    by_cases hd : s2.head? = some 46
    ·obtain ⟨t, rfl⟩ : ∃ t, s2 = 46 :: t := by
      cases s2 with
      | nil => cases hd
      | cons d t => exact ⟨t, by rw [Option.some.inj hd]⟩
     clear hd
     rw [show ((46 :: t : List UInt8).head? == some 46) = true from rfl]
     have ht : t.length + 1 ≤ maxLen := by simpa using hl2
     rw [Nm.afterWhole_point] at HE
     go_wp2_with fail
     rw [Nm.tail_extract 46 t (t.length + 1) (by omega)]
     refine (cutDigits_any _ _ (by rw [Lib.size_mk]; omega)).mono ?_
     rintro e w' ⟨rfl, rfl⟩
     rw [show (⟨t.toArray⟩ : ByteArray).data.toList = t from rfl]
     have hl3 : (Nm.suf t).length ≤ maxLen := Nat.le_trans (Nm.suf_len _) (by omega)
     generalize Nm.pre t = f at HE ⊢
     generalize Nm.suf t = s3 at HE hl3 ⊢
     clear ht hl2
     rcases f with _ | ⟨y, f⟩
     ·go_wp2
      exact bodyPost_ret (v := .tuple #[partsV (Nm.split s.data.toList).1, .bool (Nm.split s.data.toList).2]) (by rw [HE.out]; simp [results, Tryz.results77, go_sem, Nm.tail, Nm.Parts.zero]) rfl ⟨rfl, by with_reducible first | exact below_two0 _ _ _ | exact below_two1 _ _ _ | exact below_two2 _ _ _ | (refine Below.drew (below_set (below_set (below_set (below_set (below_set (below_set (below_set (below_twoN _ _ _ _) ?_ _ _) ?_ _ _) ?_ _ _) ?_ _ _) ?_ _ _) ?_ _ _) ?_ _ _) <;> omega)⟩
     ·rw [if_neg (by simp)] at HE
      rcases s3 with _ | ⟨x, u⟩
      ·go_wp2
       exact bodyPost_ret (v := .tuple #[partsV (Nm.split s.data.toList).1, .bool (Nm.split s.data.toList).2]) (by rw [HE.out]; simp [results, Tryz.results77, go_sem, Nm.tail, Nm.Parts.zero]) rfl ⟨rfl, by with_reducible first | exact below_two0 _ _ _ | exact below_two1 _ _ _ | exact below_two2 _ _ _ | (refine Below.drew (below_set (below_set (below_set (below_set (below_set (below_set (below_set (below_twoN _ _ _ _) ?_ _ _) ?_ _ _) ?_ _ _) ?_ _ _) ?_ _ _) ?_ _ _) ?_ _ _) <;> omega)⟩
      ·have hix2 : ∀ h, (⟨(x :: u).toArray⟩ : ByteArray)[0]'h = x := fun _ => rfl
       have hu : u.length + 1 ≤ maxLen := by simpa using hl3
       by_cases hx : x = 101 ∨ x = 69
       ·rw [Nm.tail_exp _ _ _ _ _ hx] at HE
        have hb : ((x.toNat : Int) != 101) = false ∨ ((x.toNat : Int) != 101) = true ∧ ((x.toNat : Int) != 69) = false := by
         rcases hx with rfl | rfl
         ·left; decide
         ·right; decide
        clear hx
        rcases hb with hb | ⟨hb, hb'⟩
        all_goals
         go_wp2_with fail
         rw [Nm.tail_extract x u (u.length + 1) (by omega)]
         refine (cutSign_any _ _ (by rw [Lib.size_mk]; omega)).mono ?_
         rintro e w' ⟨rfl, nd, rfl⟩
         rw [show (⟨u.toArray⟩ : ByteArray).data.toList = u from rfl]
         have hv : (Nm.unsgn u).length ≤ maxLen := Nat.le_trans (Nm.unsgn_len u) (by omega)
         generalize Nm.unsgn u = v at HE hv ⊢
         generalize Nm.sgn u = sg at HE ⊢
         go_wp2_with fail
         refine (cutDigits_any _ _ (by rw [Lib.size_mk]; exact hv)).mono ?_
         rintro e w' ⟨rfl, rfl⟩
         rw [show (⟨v.toArray⟩ : ByteArray).data.toList = v from rfl]
         generalize Nm.pre v = pe at HE ⊢
         generalize Nm.suf v = s5 at HE ⊢
         rcases pe with _ | ⟨y, pe⟩
         ·go_wp2
          exact bodyPost_ret (v := .tuple #[partsV (Nm.split s.data.toList).1, .bool (Nm.split s.data.toList).2]) (by rw [HE.out]; simp [results, Tryz.results77, go_sem, Nm.tail, Nm.Parts.zero]) rfl ⟨rfl, by with_reducible first | exact below_two0 _ _ _ | exact below_two1 _ _ _ | exact below_two2 _ _ _ | (refine Below.drew (below_set (below_set (below_set (below_set (below_set (below_set (below_set (below_twoN _ _ _ _) ?_ _ _) ?_ _ _) ?_ _ _) ?_ _ _) ?_ _ _) ?_ _ _) ?_ _ _) <;> omega)⟩
         ·rcases s5 with _ | ⟨z, s5⟩
          all_goals
           go_wp2
           exact bodyPost_ret (v := .tuple #[partsV (Nm.split s.data.toList).1, .bool (Nm.split s.data.toList).2]) (by rw [HE.out]; simp [results, Tryz.results77, go_sem, Nm.tail, Nm.Parts.zero]) rfl ⟨rfl, by with_reducible first | exact below_two0 _ _ _ | exact below_two1 _ _ _ | exact below_two2 _ _ _ | (refine Below.drew (below_set (below_set (below_set (below_set (below_set (below_set (below_set (below_twoN _ _ _ _) ?_ _ _) ?_ _ _) ?_ _ _) ?_ _ _) ?_ _ _) ?_ _ _) ?_ _ _) <;> omega)⟩
       ·rw [Nm.tail_bad _ _ _ _ _ hx] at HE
        have hb1 : ((x.toNat : Int) == 101) = false := Nm.byte_ne (k := 101) (fun e => hx (.inl e))
        have hb2 : ((x.toNat : Int) == 69) = false := Nm.byte_ne (k := 69) (fun e => hx (.inr e))
        have hb3 : ((x.toNat : Int) != 101) = true := by rw [bne, hb1]; rfl
        have hb4 : ((x.toNat : Int) != 69) = true := by rw [bne, hb2]; rfl
        clear hx
        go_wp2
        exact bodyPost_ret (v := .tuple #[partsV (Nm.split s.data.toList).1, .bool (Nm.split s.data.toList).2]) (by rw [HE.out]; simp [results, Tryz.results77, go_sem, Nm.tail, Nm.Parts.zero]) rfl ⟨rfl, by with_reducible first | exact below_two0 _ _ _ | exact below_two1 _ _ _ | exact below_two2 _ _ _ | (refine Below.drew (below_set (below_set (below_set (below_set (below_set (below_set (below_set (below_twoN _ _ _ _) ?_ _ _) ?_ _ _) ?_ _ _) ?_ _ _) ?_ _ _) ?_ _ _) ?_ _ _) <;> omega)⟩
    ·rw [show (s2.head? == some 46) = false from by simpa using hd]
     rw [Nm.afterWhole_none _ _ _ hd] at HE
     clear hd
     have hl3 := hl2
     clear hl2
     generalize s2 = s3 at HE hl3 ⊢
     rcases s3 with _ | ⟨x, u⟩
     ·go_wp2
      exact bodyPost_ret (v := .tuple #[partsV (Nm.split s.data.toList).1, .bool (Nm.split s.data.toList).2]) (by rw [HE.out]; simp [results, Tryz.results77, go_sem, Nm.tail, Nm.Parts.zero]) rfl ⟨rfl, by with_reducible first | exact below_two0 _ _ _ | exact below_two1 _ _ _ | exact below_two2 _ _ _ | (refine Below.drew (below_set (below_set (below_set (below_set (below_set (below_set (below_set (below_twoN _ _ _ _) ?_ _ _) ?_ _ _) ?_ _ _) ?_ _ _) ?_ _ _) ?_ _ _) ?_ _ _) <;> omega)⟩
     ·have hix2 : ∀ h, (⟨(x :: u).toArray⟩ : ByteArray)[0]'h = x := fun _ => rfl
      have hu : u.length + 1 ≤ maxLen := by simpa using hl3
      by_cases hx : x = 101 ∨ x = 69
      ·rw [Nm.tail_exp _ _ _ _ _ hx] at HE
       have hb : ((x.toNat : Int) != 101) = false ∨ ((x.toNat : Int) != 101) = true ∧ ((x.toNat : Int) != 69) = false := by
        rcases hx with rfl | rfl
        ·left; decide
        ·right; decide
       clear hx
       rcases hb with hb | ⟨hb, hb'⟩
       all_goals
        go_wp2_with fail
        rw [Nm.tail_extract x u (u.length + 1) (by omega)]
        refine (cutSign_any _ _ (by rw [Lib.size_mk]; omega)).mono ?_
        rintro e w' ⟨rfl, nd, rfl⟩
        rw [show (⟨u.toArray⟩ : ByteArray).data.toList = u from rfl]
        have hv : (Nm.unsgn u).length ≤ maxLen := Nat.le_trans (Nm.unsgn_len u) (by omega)
        generalize Nm.unsgn u = v at HE hv ⊢
        generalize Nm.sgn u = sg at HE ⊢
        go_wp2_with fail
        refine (cutDigits_any _ _ (by rw [Lib.size_mk]; exact hv)).mono ?_
        rintro e w' ⟨rfl, rfl⟩
        rw [show (⟨v.toArray⟩ : ByteArray).data.toList = v from rfl]
        generalize Nm.pre v = pe at HE ⊢
        generalize Nm.suf v = s5 at HE ⊢
        rcases pe with _ | ⟨y, pe⟩
        ·go_wp2
         exact bodyPost_ret (v := .tuple #[partsV (Nm.split s.data.toList).1, .bool (Nm.split s.data.toList).2]) (by rw [HE.out]; simp [results, Tryz.results77, go_sem, Nm.tail, Nm.Parts.zero]) rfl ⟨rfl, by with_reducible first | exact below_two0 _ _ _ | exact below_two1 _ _ _ | exact below_two2 _ _ _ | (refine Below.drew (below_set (below_set (below_set (below_set (below_set (below_set (below_set (below_twoN _ _ _ _) ?_ _ _) ?_ _ _) ?_ _ _) ?_ _ _) ?_ _ _) ?_ _ _) ?_ _ _) <;> omega)⟩
        ·rcases s5 with _ | ⟨z, s5⟩
         all_goals
          go_wp2
          exact bodyPost_ret (v := .tuple #[partsV (Nm.split s.data.toList).1, .bool (Nm.split s.data.toList).2]) (by rw [HE.out]; simp [results, Tryz.results77, go_sem, Nm.tail, Nm.Parts.zero]) rfl ⟨rfl, by with_reducible first | exact below_two0 _ _ _ | exact below_two1 _ _ _ | exact below_two2 _ _ _ | (refine Below.drew (below_set (below_set (below_set (below_set (below_set (below_set (below_set (below_twoN _ _ _ _) ?_ _ _) ?_ _ _) ?_ _ _) ?_ _ _) ?_ _ _) ?_ _ _) ?_ _ _) <;> omega)⟩
      ·rw [Nm.tail_bad _ _ _ _ _ hx] at HE
       have hb1 : ((x.toNat : Int) == 101) = false := Nm.byte_ne (k := 101) (fun e => hx (.inl e))
       have hb2 : ((x.toNat : Int) == 69) = false := Nm.byte_ne (k := 69) (fun e => hx (.inr e))
       have hb3 : ((x.toNat : Int) != 101) = true := by rw [bne, hb1]; rfl
       have hb4 : ((x.toNat : Int) != 69) = true := by rw [bne, hb2]; rfl
       clear hx
       go_wp2
       exact bodyPost_ret (v := .tuple #[partsV (Nm.split s.data.toList).1, .bool (Nm.split s.data.toList).2]) (by rw [HE.out]; simp [results, Tryz.results77, go_sem, Nm.tail, Nm.Parts.zero]) rfl ⟨rfl, by with_reducible first | exact below_two0 _ _ _ | exact below_two1 _ _ _ | exact below_two2 _ _ _ | (refine Below.drew (below_set (below_set (below_set (below_set (below_set (below_set (below_set (below_twoN _ _ _ _) ?_ _ _) ?_ _ _) ?_ _ _) ?_ _ _) ?_ _ _) ?_ _ _) ?_ _ _) <;> omega)⟩

end Go.Proofs.YtolkfgikomminaaGreatDoor

namespace Go.Proofs.YtolkfgikomminaaGreatDoor
open Go.RowKit

set_option maxHeartbeats 400000 in
theorem exponent_any (a b : Bool) (p1 p2 p3 : List UInt8) (w : World) (hp : ∀ c ∈ p3, Nm.dig c = true) (hl : p3.length ≤ maxLen) :
  Calls Tryz.prog 79 #[.agg #[.bool a, .string ⟨p1.toArray⟩, .string ⟨p2.toArray⟩, .bool b, .string ⟨p3.toArray⟩]] w
   fun e w' => e = .returned (.int .i64 (Nm.expOf ⟨a, p1, p2, b, p3⟩)) ∧ Below w.heap.size w w' := by
 unfold maxLen at hl
 have HP := Lib.hid hp
 clear hp
 go_enter Tryz.func79, Tryz.ntmps79
 go_wp2
 go_loop [3, 8] (fun v i => ∃ k : Nat, k ≤ p3.length ∧ i = .int .i64 k ∧ v = .int .i64 (Nm.expo (p3.take k))) (fun _ i => p3.length - (intOf i).toNat)
 case atStart => exact ⟨0, Nat.zero_le _, rfl, rfl⟩
 case round =>
  obtain ⟨k, hk, rfl, rfl⟩ := hrel
  by_cases hlt : k < p3.length
  ·have hx := Nm.expo_bd (p3.take k) (fun c hc => HP.out c (List.mem_of_mem_take hc))
   have hs := Nm.expo_snoc p3 k hlt
   have HS := Lib.hid hs
   clear hs
   have hd := Nm.dig_bd (HP.out p3[k] (List.getElem_mem hlt))
   obtain ⟨hx1, hx2⟩ := hx
   obtain ⟨hd1, hd2⟩ := hd
   have hix : ∀ h, (⟨p3.toArray⟩ : ByteArray)[k]'h = p3[k] := fun _ => rfl
   generalize Nm.expo (p3.take k) = ex at HS hx1 hx2 ⊢
   go_wp2
   go_round
   case rel => exact ⟨k + 1, by omega, by go_num, (by rw [HS.out]; unfold Nm.far; congr 2)⟩
   case measure => simp [intOf]; omega
  ·have hke : k = p3.length := by omega
   subst hke
   rw [List.take_length]
   have hx := Nm.expo_bd p3 HP.out
   obtain ⟨hx1, hx2⟩ := hx
   cases b
   all_goals
    go_wp2
    go_ret
    exact ⟨rfl, (Below.refl _ _).alloc (Nat.le_refl _) _⟩

abbrev numV (n : Nm.Num) : Value := .agg #[.bool n.neg, .string ⟨n.digits.toArray⟩, .int .i64 n.exp]

set_option maxHeartbeats 400000 in
theorem clone_any (s : ByteArray) (w : World) (hs : s.size ≤ 281474976710656) :
  Calls Tryz.prog 104 #[.string s] w fun e w' => e = .returned (.string s) ∧ Below w.heap.size w w' := by
 go_enter Tryz.func104, Tryz.ntmps104
 go_wp2_with fail
 refine (Tryz.stringslite_Clone _ _ hs).mono ?_
 rintro e w' ⟨rfl, hb⟩
 go_wp2
 go_ret
 exact ⟨rfl, hb⟩

set_option maxHeartbeats 400000 in
theorem normal_any (neg : Bool) (d : List UInt8) (x : Int) (w : World) (hd : d.length ≤ 1000000000000000) (hx1 : -4000000000000000 ≤ x) (hx2 : x ≤ 4000000000000000) :
  Calls Tryz.prog 78 #[.bool neg, .string ⟨d.toArray⟩, .int .i64 x] w
   fun e w' => e = .returned (.tuple #[numV (Nm.normal neg d x).1, .bool (Nm.normal neg d x).2]) ∧ Below w.heap.size w w' := by
 go_enter Tryz.func78, Tryz.ntmps78
 go_wp2_with fail
 refine (Tryz.strings_TrimLeft_one _ 48 (by decide) _).mono ?_
 rintro e w' ⟨rfl, rfl⟩
 rw [show (⟨d.toArray⟩ : ByteArray).data.toList = d from rfl]
 have hl : (Lib.trimLeftB d 48).length ≤ d.length := (List.dropWhile_sublist _).length_le
 generalize hll : Lib.trimLeftB d 48 = l at hl ⊢
 have HL := Lib.hid hll
 clear hll
 go_wp2_with fail
 refine (Tryz.strings_TrimRight_one _ 48 (by decide) _ (by rw [Lib.size_mk]; omega)).mono ?_
 rintro e w' ⟨rfl, rfl⟩
 rw [show (⟨l.toArray⟩ : ByteArray).data.toList = l from rfl]
 have hr : (Lib.trimRightB l 48).length ≤ l.length := by
  unfold Lib.trimRightB; rw [List.length_reverse]; have := (List.dropWhile_sublist (· == (48 : UInt8)) (l := l.reverse)).length_le; simpa using this
 generalize hrr : Lib.trimRightB l 48 = r at hr ⊢
 have HR := Lib.hid hrr
 clear hrr
 have HE := Lib.hid (Nm.normal_eq neg HL.out HR.out x)
 clear HL HR
 rcases r with _ | ⟨c, r⟩
 ·go_wp2
  exact bodyPost_ret (v := .tuple #[numV (Nm.normal neg d x).1, .bool (Nm.normal neg d x).2]) (by rw [HE.out]; simp [results, Tryz.results78, go_sem, Nm.Num.zero]) rfl ⟨rfl, (Below.refl _ _).alloc (Nat.le_refl _) _⟩
 ·by_cases hb : 60 < (c :: r).length ∨ x + ((l.length : Int) - (c :: r).length) < -1000 ∨ 1000 < x + ((l.length : Int) - (c :: r).length)
  ·rw [if_neg (by simp), if_pos hb] at HE
   have hb' : 60 < r.length + 1 ∨ (r.length + 1 ≤ 60 ∧ x + ((l.length : Int) - (r.length + 1)) < -1000) ∨ (r.length + 1 ≤ 60 ∧ -1000 ≤ x + ((l.length : Int) - (r.length + 1)) ∧ 1000 < x + ((l.length : Int) - (r.length + 1))) := by
    simp only [List.length_cons] at hb; omega
   clear hb
   rcases hb' with hb' | ⟨hb1, hb2⟩ | ⟨hb1, hb2, hb3⟩
   all_goals
    go_wp2
    exact bodyPost_ret (v := .tuple #[numV (Nm.normal neg d x).1, .bool (Nm.normal neg d x).2]) (by rw [HE.out]; simp [results, Tryz.results78, go_sem, Nm.Num.zero]) rfl ⟨rfl, (Below.refl _ _).alloc (Nat.le_refl _) _⟩
  ·rw [if_neg (by simp), if_neg hb] at HE
   simp only [List.length_cons] at hb hr
   have hb1 : r.length + 1 ≤ 60 := by omega
   have hb2 : -1000 ≤ x + ((l.length : Int) - (r.length + 1)) := by omega
   have hb3 : x + ((l.length : Int) - (r.length + 1)) ≤ 1000 := by omega
   clear hb
   go_wp2_with fail
   refine (clone_any _ _ (by rw [Lib.size_mk, List.length_cons]; omega)).mono ?_
   rintro e w1 ⟨rfl, hbl⟩
   obtain ⟨hc, hf⟩ := bcell hbl
   go_wp2
   exact bodyPost_ret (v := .tuple #[numV (Nm.normal neg d x).1, .bool (Nm.normal neg d x).2]) (by rw [HE.out]; simp [results, Tryz.results78, go_sem, hc]) rfl ⟨rfl, below_set (below_set (below_set (((Below.refl _ _).alloc (Nat.le_refl _) _).trans (hbl.mono (by simp))) (Nat.le_refl _) _ _) (Nat.le_refl _) _ _) (Nat.le_refl _) _ _⟩

end Go.Proofs.YtolkfgikomminaaGreatDoor

namespace Go.Proofs.YtolkfgikomminaaGreatDoor
open Go.RowKit
end Go.Proofs.YtolkfgikomminaaGreatDoor

namespace Go.Proofs.YtolkfgikomminaaGreatDoor
open Go.RowKit

abbrev Tab (w : World) : Prop := Lib.TabIs Tryz.prog w "internal/strconv.uint64pow10" .u64 Lib.pow10Tab

theorem Tab.keep {w w' : World} (h : Tab w) (hb : Below w.heap.size w w') : Tab w' :=
 Joins.tab_stays (g := 1) (by kernel_rfl) h hb (Nat.le_refl _)

theorem below_grow (w : World) (k : Nat) (os : Array Obj) : Below w.heap.size w (Sort.grow (w.drewN k) os) :=
 ⟨rfl, rfl, rfl, by simp [Sort.grow], fun j hj => by simp [Sort.grow, Array.getElem?_append_left hj]⟩

end Go.Proofs.YtolkfgikomminaaGreatDoor


