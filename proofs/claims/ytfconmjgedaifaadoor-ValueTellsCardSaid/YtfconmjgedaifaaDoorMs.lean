/- Ms: Ri Rj, in one text. -/
import Derived.Test.YtfconmjgedaifaaDoorShelfv
import Derived.Test.YtfconmjgedaifaaDoorMf
import Derived.Test.YtfconmjgedaifaaDoorRd
import Derived.Test.YtfconmjgedaifaaDoorMd
import Derived.Test.YtfconmjgedaifaaDoorMc
import Derived.Test.YtfconmjgedaifaaDoorMm
/- The walks of layer 3: the program's mayElements, mayMembers, mayWithin, May. -/
namespace Go.Proofs.YtfconmjgedaifaaDoor
open Go.RowKit Js

/-- ValidString: is a text UTF-8? -/
theorem valid_any (s : List UInt8) (w : World) (hs : s.length ≤ 1000000000000000000) (hT : Tabs w) :
    Calls Tryd.prog 90 #[.string ⟨s.toArray⟩] w fun e w' => e = .returned (.bool (St.text s)) ∧ Below w.heap.size w w' := by
  rw [text_valid]
  exact Tryd.utf8_ValidString ⟨s.toArray⟩ w (by rw [Lib.size_mk]; omega) hT

/-- What mayWithin tells, wherever a value stands. -/
def MayCalls (v : Vl) (lv : Int) : Prop := ∀ (x : Value) (w : World), Tabs w → v.In w.cell? x →
  Calls Tryd.prog 66 #[x, .int .i64 lv] w fun e w' => e = .returned (.bool v.may) ∧ Below w.heap.size w w'

def MayingL (w : World) (l : List Vl) (i : Value) (wr : World) : Prop :=
  ∃ j : Nat, j ≤ l.length ∧ i = .int .i64 j ∧ mayL l = mayL (l.drop j) ∧ Below w.heap.size w wr

set_option linter.unusedVariables false in
set_option maxRecDepth 100000 in
set_option maxHeartbeats 2000000 in
theorem mayElements_any (l : List Vl) (lv : Int) (A : Option Addr) (e : Nat) (w : World) (hT : Tabs w) (he : l.length ≤ e) (hm : e ≤ maxLen) (hs : SlL w.cell? A l) (h0 : -1 ≤ lv) (h1 : lv ≤ 65536)
    (HC : ∀ v ∈ l, MayCalls v (lv - 1)) :
    Calls Tryd.prog 91 #[.slice A l.length e, .int .i64 lv] w fun e w' => e = .returned (.bool (mayL l)) ∧ Below w.heap.size w w' := by
  unfold maxLen at hm
  have HS := Lib.hid hs
  have HCC := Lib.hid HC
  have HT := Lib.hid hT
  clear hs HC hT
  go_enter Tryd.func91, Tryd.ntmps91
  go_wp2_with fail
  go_loopw [9] (MayingL w l) (fun i _ => l.length - (intOf i).toNat)
  case atStart => exact ⟨0, by omega, rfl, rfl, Below.refl _ _⟩
  case round =>
    obtain ⟨j, hj, rfl, hsm, hW⟩ := hrel
    have HSM := Lib.hid hsm
    clear hsm
    by_cases hlt : j < l.length
    · obtain ⟨g, o, y, rfl, hy, hc⟩ := HS.out j _ (List.getElem?_eq_getElem hlt)
      obtain ⟨k1, b1, n1, g1, x1, s1, A1, l1, p1, B1, m1, z1, rfl⟩ := In.cells hy
      have hle : Cl.le w.cell? wr.cell? := le_below hW
      obtain ⟨e0, e1, e2, e3, e4, e5, e6, e7⟩ := (hc.keep hle).eight
      have hle2 := hle.trans (le_alloc wr (.cells #[.int .i64 k1, .bool b1, .bool n1, .string ⟨g1.toArray⟩, .int .i64 x1, .string ⟨s1.toArray⟩, .slice A1 l1 p1, .slice B1 m1 z1] 52))
      have HY := Lib.hid (In.keep hle2 _ _ hy)
      have HTR := Lib.hid (HT.out.on ((hW.alloc hW.size (.cells #[.int .i64 k1, .bool b1, .bool n1, .string ⟨g1.toArray⟩, .int .i64 x1, .string ⟨s1.toArray⟩, .slice A1 l1 p1, .slice B1 m1 z1] 52))))
      have HSTEP := Lib.hid (show mayL (l.drop j) = (l[j].may && mayL (l.drop (j + 1))) by
        rw [List.drop_eq_getElem_cons hlt]; simp only [mayL])
      have HIH := Lib.hid (HCC.out l[j] (List.getElem_mem _))
      unfold MayCalls at HIH
      clear hc hy hle hle2
      generalize l[j].may = q at HSTEP HIH
      go_wp2_with fail
      refine (HIH.out _ _ HTR.out HY.out).mono ?_
      rintro e' w2 ⟨rfl, hb2⟩
      have hb : Below w.heap.size w w2 := (hW.alloc hW.size _).trans (hb2.mono (by have := hW.size; simp; omega))
      cases q with
      | true =>
        go_wp2_with fail
        go_roundw
        case rel => exact ⟨j + 1, by omega, by go_num, by rw [HSM.out, HSTEP.out]; rfl, hb⟩
        case measure => simp [intOf]; omega
      | false =>
        go_wp2_with fail
        go_ret
        exact ⟨by rw [HSM.out, HSTEP.out]; rfl, hb⟩
    · obtain rfl : j = l.length := by omega
      have HE := Lib.hid (show mayL l = true by rw [HSM.out, List.drop_length]; simp only [mayL])
      go_wp2_with fail
      go_ret
      exact ⟨by rw [HE.out]; rfl, hW⟩

/-- So far the members may be, and their keys rise. -/
def OkM (m : List Js.Mem) (j : Nat) : Prop := ∀ i p, i < j → m[i]? = some p → (St.text p.1 = true ∧ p.2.may = true) ∧ ∀ q, 0 < i → m[i - 1]? = some q → Lib.compareBytes q.1 p.1 = -1
theorem rises_of : ∀ (ks : List (List UInt8)), (∀ i a b, ks[i]? = some a → ks[i + 1]? = some b → Lib.compareBytes a b = -1) → rises ks = true
  | [], _ => rfl
  | [a], _ => rfl
  | a :: b :: r, h => by
    simp only [rises, Bool.and_eq_true, decide_eq_true_eq]
    exact ⟨h 0 a b rfl rfl, rises_of (b :: r) fun i x y hx hy => h (i + 1) x y (by simpa using hx) (by simpa using hy)⟩
theorem OkM.all {m : List Js.Mem} (h : OkM m m.length) : (mayM m && rises (m.map (·.1))) = true := by
  rw [Bool.and_eq_true]
  constructor
  · rw [mayM_iff]
    intro p hp
    obtain ⟨i, hi⟩ := List.getElem?_of_mem hp
    exact (h i p (List.getElem?_eq_some_iff.1 hi).1 hi).1
  · refine rises_of _ fun i a b ha hb => ?_
    rw [List.getElem?_map] at ha hb
    cases hi : m[i]? with
    | none => rw [hi] at ha; cases ha
    | some p =>
      cases hj : m[i + 1]? with
      | none => rw [hj] at hb; cases hb
      | some q =>
        rw [hi] at ha; rw [hj] at hb
        cases ha; cases hb
        exact (h (i + 1) q (List.getElem?_eq_some_iff.1 hj).1 hj).2 p (by omega) (by simpa using hi)
theorem OkM.step {m : List Js.Mem} {j : Nat} (h : OkM m j) {p : Js.Mem} (hp : m[j]? = some p) (h1 : St.text p.1 = true) (h2 : p.2.may = true) (h3 : ∀ q, 0 < j → m[j - 1]? = some q → Lib.compareBytes q.1 p.1 = -1) : OkM m (j + 1) := by
  intro i p' hi hp'
  by_cases e : i = j
  · subst e
    rw [hp] at hp'; cases hp'
    exact ⟨⟨h1, h2⟩, h3⟩
  · exact h i p' (by omega) hp'
theorem okM_text {m : List Js.Mem} {j : Nat} {p : Js.Mem} (hp : m[j]? = some p) (h : ¬ (St.text p.1 = true ∧ p.2.may = true)) : (mayM m && rises (m.map (·.1))) = false := by
  rw [Bool.and_eq_false_iff]
  left
  rw [Bool.eq_false_iff]
  intro hm
  exact h ((mayM_iff m).1 hm p (List.mem_of_getElem? hp))
theorem okM_rise {m : List Js.Mem} {j : Nat} {p q : Js.Mem} (hj : 0 < j) (hp : m[j]? = some p) (hq : m[j - 1]? = some q) (h : ¬ Lib.compareBytes q.1 p.1 = -1) : (mayM m && rises (m.map (·.1))) = false := by
  rw [Bool.and_eq_false_iff]
  right
  rw [Bool.eq_false_iff]
  intro hm
  exact h (rises_at hm (i := j - 1) (j := j) (by omega) (by simp [hq]) (by simp [hp]))

def MayingM (w : World) (m : List Js.Mem) (i : Value) (wr : World) : Prop :=
  ∃ j : Nat, j ≤ m.length ∧ i = .int .i64 j ∧ OkM m j ∧ Below w.heap.size w wr

set_option linter.unusedVariables false in
set_option linter.unusedSimpArgs false in
set_option maxRecDepth 100000 in
set_option maxHeartbeats 4000000 in
theorem mayMembers_any (m : List Js.Mem) (lv : Int) (A : Option Addr) (e : Nat) (w : World) (hT : Tabs w) (he : m.length ≤ e) (hm : e ≤ maxLen) (hs : SlM w.cell? A m) (h0 : -1 ≤ lv) (h1 : lv ≤ 65536)
    (hK : ∀ p ∈ m, p.1.length ≤ 1000000000000000000) (HC : ∀ p ∈ m, MayCalls p.2 (lv - 1)) :
    Calls Tryd.prog 92 #[.slice A m.length e, .int .i64 lv] w fun e w' => e = .returned (.bool (mayM m && rises (m.map (·.1)))) ∧ Below w.heap.size w w' := by
  unfold maxLen at hm
  have HS := Lib.hid hs
  have HCC := Lib.hid HC
  have HKK := Lib.hid hK
  have HT := Lib.hid hT
  clear hs HC hT hK
  go_enter Tryd.func92, Tryd.ntmps92
  go_wp2_with fail
  go_loopw [9] (MayingM w m) (fun i _ => m.length - (intOf i).toNat)
  case atStart => exact ⟨0, by omega, rfl, (fun i p hi => by omega), Below.refl _ _⟩
  case round =>
    obtain ⟨j, hj, rfl, hok, hW⟩ := hrel
    have HOK := Lib.hid hok
    clear hok
    by_cases hlt : j < m.length
    · have hgp := List.getElem?_eq_getElem hlt
      obtain ⟨g, o, y, rfl, hy, hk, hc⟩ := HS.out j _ hgp
      have HGP := Lib.hid hgp
      obtain ⟨k1, b1, n1, g1, x1, s1, A1, l1, p1, B1, mm1, z1, rfl⟩ := In.cells hy
      have hle : Cl.le w.cell? wr.cell? := le_below hW
      obtain ⟨e0, e1, e2, e3, e4, e5, e6, e7⟩ := (hc.keep hle).eight
      have ek := hle _ _ hk
      have hle2 := hle.trans (le_alloc wr (.cells #[.string ⟨m[j].1.toArray⟩, .int .i64 k1, .bool b1, .bool n1, .string ⟨g1.toArray⟩, .int .i64 x1, .string ⟨s1.toArray⟩, .slice A1 l1 p1, .slice B1 mm1 z1] 62))
      have HY := Lib.hid (In.keep hle2 _ _ hy)
      have hW2 := hW.alloc hW.size (.cells #[.string ⟨m[j].1.toArray⟩, .int .i64 k1, .bool b1, .bool n1, .string ⟨g1.toArray⟩, .int .i64 x1, .string ⟨s1.toArray⟩, .slice A1 l1 p1, .slice B1 mm1 z1] 62)
      have HTR := Lib.hid (HT.out.on hW2)
      have HIH := Lib.hid (HCC.out m[j] (List.getElem_mem _))
      unfold MayCalls at HIH
      have hkl := HKK.out m[j] (List.getElem_mem _)
      clear hc hy hle hle2 hk hgp
      generalize m[j] = p at *
      obtain ⟨key, v⟩ := p
      simp only at ek HY hW2 HTR HIH hkl HGP
      have HB2 := Lib.hid hW2
      clear hW2
      have HBK := Lib.hid (Blk.new wr 62 #[.string ⟨key.toArray⟩, .int .i64 k1, .bool b1, .bool n1, .string ⟨g1.toArray⟩, .int .i64 x1, .string ⟨s1.toArray⟩, .slice A1 l1 p1, .slice B1 mm1 z1])
      by_cases hj0 : 0 < j
      · obtain ⟨i, rfl⟩ : ∃ i, j = i + 1 := ⟨j - 1, by omega⟩
        have hgq := List.getElem?_eq_getElem (show i < m.length by omega)
        obtain ⟨g', o', y', hA, hy', hk', hc'⟩ := HS.out i _ hgq
        cases hA
        have HGQ := Lib.hid hgq
        have ekq := le_below HB2.out _ _ hk'
        clear hy' hc' hk' hgq y'
        generalize m[i] = q at *
        obtain ⟨keyq, vq⟩ := q
        simp only at ekq HGQ
        have hjj : decide ((0 : Int) < ((i + 1 : Nat) : Int)) = true := by simp
        go_upto_region 4 with (fail)
        generalize wr.alloc (.cells #[.string ⟨key.toArray⟩, .int .i64 k1, .bool b1, .bool n1, .string ⟨g1.toArray⟩, .int .i64 x1, .string ⟨s1.toArray⟩, .slice A1 l1 p1, .slice B1 mm1 z1] 62) = W2 at *
        have m0 := HBK.out.cell 0
        have m1 := HBK.out.cell 1
        have m2 := HBK.out.cell 2
        have m3 := HBK.out.cell 3
        have m4 := HBK.out.cell 4
        have m5 := HBK.out.cell 5
        have m6 := HBK.out.cell 6
        have m7 := HBK.out.cell 7
        have m8 := HBK.out.cell 8
        have HLE := Lib.hid (Nm.less_bytes keyq key)
        cases hlt2 : Op.bytesLess keyq key with
        | false =>
          have HF := Lib.hid (okM_rise (m := m) (j := i + 1) (by omega) HGP.out HGQ.out (fun e => by have := HLE.out; rw [hlt2] at this; simp [e] at this))
          go_quiet (fail)
          go_wp2_with fail
          go_ret
          exact ⟨by rw [HF.out]; rfl, below_drewN HB2.out _⟩
        | true =>
          have HR := Lib.hid (show ∀ q, 0 < i + 1 → m[i + 1 - 1]? = some q → Lib.compareBytes q.1 key = -1 from fun q _ hq => by
            rw [Nat.add_sub_cancel, HGQ.out] at hq
            cases hq
            have := HLE.out
            rw [hlt2] at this
            simpa using this.symm)
          go_quiet (fail)
          have HB3 := Lib.hid (below_drewN HB2.out nq)
          have HBK3 := Lib.hid (HBK.out.on (below_drewN (Below.refl _ _) nq))
          have HTR3 := Lib.hid (HTR.out.on (below_drewN (Below.refl _ _) nq))
          have HY3 := Lib.hid (In.keep (le_below (below_drewN (Below.refl _ _) nq)) _ _ HY.out)
          clear HBK HTR HY m0 m1 m2 m3 m4 m5 m6 m7 m8
          generalize W2.drewN nq = W3 at *
          have m0 := HBK3.out.cell 0
          have m1 := HBK3.out.cell 1
          have m2 := HBK3.out.cell 2
          have m3 := HBK3.out.cell 3
          have m4 := HBK3.out.cell 4
          have m5 := HBK3.out.cell 5
          have m6 := HBK3.out.cell 6
          have m7 := HBK3.out.cell 7
          have m8 := HBK3.out.cell 8
          go_wp2_with fail
          refine (valid_any key _ hkl HTR3.out).mono ?_
          rintro e' w4 ⟨rfl, hb4⟩
          have HB4 := Lib.hid (HB3.out.trans (hb4.mono HB3.out.size))
          have HTR4 := Lib.hid (HTR3.out.on hb4)
          have HBK4 := Lib.hid (HBK3.out.on hb4)
          have HY4 := Lib.hid (In.keep (le_below hb4) _ _ HY3.out)
          clear HTR3 HBK3 HY3 HB3 hb4 m0 m1 m2 m3 m4 m5 m6 m7 m8
          have m0 := HBK4.out.cell 0
          have m1 := HBK4.out.cell 1
          have m2 := HBK4.out.cell 2
          have m3 := HBK4.out.cell 3
          have m4 := HBK4.out.cell 4
          have m5 := HBK4.out.cell 5
          have m6 := HBK4.out.cell 6
          have m7 := HBK4.out.cell 7
          have m8 := HBK4.out.cell 8
          cases htx : St.text key with
          | false =>
            have HF := Lib.hid (okM_text HGP.out (by simp [htx]))
            clear htx
            go_wp2_with fail
            go_ret
            exact ⟨by rw [HF.out]; rfl, HB4.out⟩
          | true =>
            have HTX := Lib.hid htx
            clear htx
            go_wp2_with fail
            refine (HIH.out _ _ HTR4.out HY4.out).mono ?_
            rintro e' w5 ⟨rfl, hb5⟩
            have HB5 := Lib.hid (HB4.out.trans (hb5.mono HB4.out.size))
            clear hb5
            cases hq : v.may with
            | false =>
              have HF := Lib.hid (okM_text HGP.out (by simp [hq]))
              clear hq
              go_wp2_with fail
              go_ret
              exact ⟨by rw [HF.out]; rfl, HB5.out⟩
            | true =>
              have HK := Lib.hid (HOK.out.step HGP.out HTX.out hq HR.out)
              clear hq
              go_wp2_with fail
              go_roundw
              case rel => exact ⟨i + 1 + 1, by omega, by go_num, HK.out, HB5.out⟩
              case measure => simp [intOf]; omega
      · have HR := Lib.hid (show ∀ q, 0 < j → m[j - 1]? = some q → Lib.compareBytes q.1 key = -1 from fun q h => absurd h hj0)
        have hjj : decide ((0 : Int) < (j : Int)) = false := by simp; omega
        go_upto_region 4 with (fail)
        generalize wr.alloc (.cells #[.string ⟨key.toArray⟩, .int .i64 k1, .bool b1, .bool n1, .string ⟨g1.toArray⟩, .int .i64 x1, .string ⟨s1.toArray⟩, .slice A1 l1 p1, .slice B1 mm1 z1] 62) = W2 at *
        have m0 := HBK.out.cell 0
        have m1 := HBK.out.cell 1
        have m2 := HBK.out.cell 2
        have m3 := HBK.out.cell 3
        have m4 := HBK.out.cell 4
        have m5 := HBK.out.cell 5
        have m6 := HBK.out.cell 6
        have m7 := HBK.out.cell 7
        have m8 := HBK.out.cell 8
        go_quiet (fail)
        have HB3 := Lib.hid (below_drewN HB2.out nq)
        have HBK3 := Lib.hid (HBK.out.on (below_drewN (Below.refl _ _) nq))
        have HTR3 := Lib.hid (HTR.out.on (below_drewN (Below.refl _ _) nq))
        have HY3 := Lib.hid (In.keep (le_below (below_drewN (Below.refl _ _) nq)) _ _ HY.out)
        clear HBK HTR HY m0 m1 m2 m3 m4 m5 m6 m7 m8
        generalize W2.drewN nq = W3 at *
        have m0 := HBK3.out.cell 0
        have m1 := HBK3.out.cell 1
        have m2 := HBK3.out.cell 2
        have m3 := HBK3.out.cell 3
        have m4 := HBK3.out.cell 4
        have m5 := HBK3.out.cell 5
        have m6 := HBK3.out.cell 6
        have m7 := HBK3.out.cell 7
        have m8 := HBK3.out.cell 8
        go_wp2_with fail
        refine (valid_any key _ hkl HTR3.out).mono ?_
        rintro e' w4 ⟨rfl, hb4⟩
        have HB4 := Lib.hid (HB3.out.trans (hb4.mono HB3.out.size))
        have HTR4 := Lib.hid (HTR3.out.on hb4)
        have HBK4 := Lib.hid (HBK3.out.on hb4)
        have HY4 := Lib.hid (In.keep (le_below hb4) _ _ HY3.out)
        clear HTR3 HBK3 HY3 HB3 hb4 m0 m1 m2 m3 m4 m5 m6 m7 m8
        have m0 := HBK4.out.cell 0
        have m1 := HBK4.out.cell 1
        have m2 := HBK4.out.cell 2
        have m3 := HBK4.out.cell 3
        have m4 := HBK4.out.cell 4
        have m5 := HBK4.out.cell 5
        have m6 := HBK4.out.cell 6
        have m7 := HBK4.out.cell 7
        have m8 := HBK4.out.cell 8
        cases htx : St.text key with
        | false =>
          have HF := Lib.hid (okM_text HGP.out (by simp [htx]))
          clear htx
          go_wp2_with fail
          go_ret
          exact ⟨by rw [HF.out]; rfl, HB4.out⟩
        | true =>
          have HTX := Lib.hid htx
          clear htx
          go_wp2_with fail
          refine (HIH.out _ _ HTR4.out HY4.out).mono ?_
          rintro e' w5 ⟨rfl, hb5⟩
          have HB5 := Lib.hid (HB4.out.trans (hb5.mono HB4.out.size))
          clear hb5
          cases hq : v.may with
          | false =>
            have HF := Lib.hid (okM_text HGP.out (by simp [hq]))
            clear hq
            go_wp2_with fail
            go_ret
            exact ⟨by rw [HF.out]; rfl, HB5.out⟩
          | true =>
            have HK := Lib.hid (HOK.out.step HGP.out HTX.out hq HR.out)
            clear hq
            go_wp2_with fail
            go_roundw
            case rel => exact ⟨j + 1, by omega, by go_num, HK.out, HB5.out⟩
            case measure => simp [intOf]; omega
    · obtain rfl : j = m.length := by omega
      have HE := Lib.hid HOK.out.all
      go_wp2_with fail
      go_ret
      exact ⟨by rw [HE.out]; rfl, hW⟩

end Go.Proofs.YtfconmjgedaifaaDoor

/- The walks of layer 3: the program's mayWithin, May. -/
namespace Go.Proofs.YtfconmjgedaifaaDoor
open Go.RowKit Js

theorem may_parts {k : Int} {b : Bool} {n : Nm.Num} {s : List UInt8} {l : List Vl} {m : List Js.Mem} (q0 q1 q2 q3 q4 : Bool) (h0 : ownOf k b n s l.length m.length = q0) (h1 : mayNum n = q1) (h2 : St.text s = q2) (h3 : mayL l = q3) (h4 : (mayM m && rises (m.map (·.1))) = q4) :
    (Vl.mk k b n s l m).may = (q0 && q1 && q2 && q3 && q4) := by
  subst h0 h1 h2 h3 h4; rfl

set_option linter.unusedVariables false in
set_option linter.unusedSimpArgs false in
set_option maxRecDepth 100000 in
set_option maxHeartbeats 4000000 in
theorem mayWithin_any (v : Vl) : ∀ (lv : Int), (v.levels : Int) ≤ lv → lv ≤ 65536 → v.slim 100000000000 → MayCalls v lv := by
  induction v using Vl.ind with
  | h k b n s l m hl hm =>
  intro lv h0 h1 hs x w hT hx
  obtain ⟨A, e, B, d, rfl, q1, q2, q3, q4, q5, q6⟩ := In.form hx
  obtain ⟨neg, dg, ex⟩ := n
  simp only [Vl.slim] at hs
  obtain ⟨s1, s2, s3, s4⟩ := hs
  have hLC : ∀ v ∈ l, MayCalls v (lv - 1) := fun v hv => by
    have h3 := levelsL_mem hv
    simp only [Vl.levels] at h0
    exact hl v hv (lv - 1) (by omega) (by omega) ((slimL_iff _ _).1 s3 v hv)
  have hMC : ∀ p ∈ m, MayCalls p.2 (lv - 1) := fun p hp => by
    have h3 := levelsM_mem hp
    simp only [Vl.levels] at h0
    exact hm p hp (lv - 1) (by omega) (by omega) ((slimM_iff _ _).1 s4 p hp).2
  have hMK : ∀ p ∈ m, p.1.length ≤ 1000000000000000000 := fun p hp => by
    have := ((slimM_iff _ _).1 s4 p hp).1
    omega
  have hb0 : Below w.heap.size w (w.alloc (.cells #[.int .i64 k, .bool b, .bool neg, .string ⟨dg.toArray⟩, .int .i64 ex, .string ⟨s.toArray⟩, .slice A l.length e, .slice B m.length d] 52)) := (Below.refl _ _).alloc (Nat.le_refl _) _
  have HX := Lib.hid (Blk.new w 52 #[.int .i64 k, .bool b, .bool neg, .string ⟨dg.toArray⟩, .int .i64 ex, .string ⟨s.toArray⟩, .slice A l.length e, .slice B m.length d])
  have HB0 := Lib.hid hb0
  have HT0 := Lib.hid (hT.on hb0)
  have HSL := Lib.hid (SlL.keep (le_below hb0) (show SlL w.cell? A l from q5))
  have HSM := Lib.hid (SlM.keep (le_below hb0) (show SlM w.cell? B m from q6))
  have HLC := Lib.hid (fun W hT hs => mayElements_any l lv A e W hT q1 q2 hs (by omega) h1 hLC)
  have HMC := Lib.hid (fun W hT hs => mayMembers_any m lv B d W hT q3 q4 hs (by omega) h1 hMK hMC)
  have HPT := Lib.hid (fun q0 q1 q2 q3 q4 => may_parts (k := k) (b := b) (n := ⟨neg, dg, ex⟩) (s := s) (l := l) (m := m) q0 q1 q2 q3 q4)
  have HOWN := Lib.hid (fun W => own_any k b neg dg ex s A l.length e B m.length d W)
  have HNUM := Lib.hid (fun W => mayNumber_any neg dg ex (by omega) W)
  have HVAL := Lib.hid (fun W hT => valid_any s W (by omega) hT)
  have hlv : decide ((0 : Int) ≤ lv) = true := by simp; omega
  unfold maxLen at q2 q4
  clear hl hm hx q5 q6 hLC hMC hMK hb0 hT s3 s4 h0
  generalize (Vl.mk k b ⟨neg, dg, ex⟩ s l m).may = qq at HPT
  generalize ownOf k b ⟨neg, dg, ex⟩ s l.length m.length = r0 at HPT HOWN
  generalize mayNum ⟨neg, dg, ex⟩ = r1 at HPT HNUM
  generalize St.text s = r2 at HPT HVAL
  generalize mayL l = r3 at HPT HLC
  generalize (mayM m && rises (m.map (·.1))) = r4 at HPT HMC
  have HQ := Lib.hid (HPT.out r0 r1 r2 r3 r4 rfl rfl rfl rfl rfl)
  clear HPT
  go_enter Tryd.func66, Tryd.ntmps66
  go_upto_region 1 with (fail)
  generalize w.alloc (.cells #[.int .i64 k, .bool b, .bool neg, .string ⟨dg.toArray⟩, .int .i64 ex, .string ⟨s.toArray⟩, .slice A l.length e, .slice B m.length d] 52) = W at *
  obtain ⟨c0, c1, c2, c3, c4, c5, c6, c7⟩ := HX.out.eight
  go_wp2_with fail
  refine (HOWN.out _).mono ?_
  rintro e1 w1 ⟨rfl, hb1⟩
  have HB1 := Lib.hid (HB0.out.trans (hb1.mono HB0.out.size))
  have HT1 := Lib.hid (HT0.out.on hb1)
  have HX1 := Lib.hid (HX.out.on hb1)
  have HL1 := Lib.hid (HSL.out.keep (le_below hb1))
  have HM1 := Lib.hid (HSM.out.keep (le_below hb1))
  clear hb1 c0 c1 c2 c3 c4 c5 c6 c7 HB0 HT0 HX HSL HSM HOWN
  obtain ⟨c0, c1, c2, c3, c4, c5, c6, c7⟩ := HX1.out.eight
  cases r0 with
  | false =>
    go_wp2_with fail
    go_ret
    exact ⟨by rw [HQ.out]; rfl, HB1.out⟩
  | true =>
  go_wp2_with fail
  refine (HNUM.out _).mono ?_
  rintro e1 w2 ⟨rfl, hb1⟩
  have HB2 := Lib.hid (HB1.out.trans (hb1.mono HB1.out.size))
  have HT2 := Lib.hid (HT1.out.on hb1)
  have HX2 := Lib.hid (HX1.out.on hb1)
  have HL2 := Lib.hid (HL1.out.keep (le_below hb1))
  have HM2 := Lib.hid (HM1.out.keep (le_below hb1))
  clear hb1 c0 c1 c2 c3 c4 c5 c6 c7 HB1 HT1 HX1 HL1 HM1 HNUM
  obtain ⟨c0, c1, c2, c3, c4, c5, c6, c7⟩ := HX2.out.eight
  cases r1 with
  | false =>
    go_wp2_with fail
    go_ret
    exact ⟨by rw [HQ.out]; rfl, HB2.out⟩
  | true =>
  go_wp2_with fail
  refine (HVAL.out _ HT2.out).mono ?_
  rintro e1 w3 ⟨rfl, hb1⟩
  have HB3 := Lib.hid (HB2.out.trans (hb1.mono HB2.out.size))
  have HT3 := Lib.hid (HT2.out.on hb1)
  have HX3 := Lib.hid (HX2.out.on hb1)
  have HL3 := Lib.hid (HL2.out.keep (le_below hb1))
  have HM3 := Lib.hid (HM2.out.keep (le_below hb1))
  clear hb1 c0 c1 c2 c3 c4 c5 c6 c7 HB2 HT2 HX2 HL2 HM2 HVAL
  obtain ⟨c0, c1, c2, c3, c4, c5, c6, c7⟩ := HX3.out.eight
  cases r2 with
  | false =>
    go_wp2_with fail
    go_ret
    exact ⟨by rw [HQ.out]; rfl, HB3.out⟩
  | true =>
  go_wp2_with fail
  refine (HLC.out _ HT3.out HL3.out).mono ?_
  rintro e1 w4 ⟨rfl, hb1⟩
  have HB4 := Lib.hid (HB3.out.trans (hb1.mono HB3.out.size))
  have HT4 := Lib.hid (HT3.out.on hb1)
  have HX4 := Lib.hid (HX3.out.on hb1)
  have HM4 := Lib.hid (HM3.out.keep (le_below hb1))
  clear hb1 c0 c1 c2 c3 c4 c5 c6 c7 HB3 HT3 HX3 HL3 HM3 HLC
  obtain ⟨c0, c1, c2, c3, c4, c5, c6, c7⟩ := HX4.out.eight
  cases r3 with
  | false =>
    go_wp2_with fail
    go_ret
    exact ⟨by rw [HQ.out]; rfl, HB4.out⟩
  | true =>
  go_wp2_with fail
  refine (HMC.out _ HT4.out HM4.out).mono ?_
  rintro e1 w5 ⟨rfl, hb1⟩
  have HB5 := Lib.hid (HB4.out.trans (hb1.mono HB4.out.size))
  clear hb1 c0 c1 c2 c3 c4 c5 c6 c7 HB4 HT4 HX4 HM4 HMC
  cases r4 with
  | false =>
    go_wp2_with fail
    go_ret
    exact ⟨by rw [HQ.out]; rfl, HB5.out⟩
  | true =>
    go_wp2_with fail
    go_ret
    exact ⟨by rw [HQ.out]; rfl, HB5.out⟩

set_option linter.unusedVariables false in
set_option maxRecDepth 100000 in
set_option maxHeartbeats 2000000 in
/-- May, of values with no more levels than it goes down. -/
theorem may_any (v : Vl) (x : Value) (w : World) (hT : Tabs w) (hx : v.In w.cell? x) (hlv : v.levels ≤ 65536) (hs : v.slim 100000000000) :
    Calls Tryd.prog 35 #[x] w fun e w' => e = .returned (.bool v.may) ∧ Below w.heap.size w w' := by
  obtain ⟨k1, b1, n1, g1, x1, s1, A1, l1, p1, B1, m1, z1, rfl⟩ := In.cells hx
  have hb0 : Below w.heap.size w (w.alloc (.cells #[.int .i64 k1, .bool b1, .bool n1, .string ⟨g1.toArray⟩, .int .i64 x1, .string ⟨s1.toArray⟩, .slice A1 l1 p1, .slice B1 m1 z1] 52)) := (Below.refl _ _).alloc (Nat.le_refl _) _
  have HC := Lib.hid (mayWithin_any v 65536 (by omega) (by omega) hs _ _ (hT.on hb0) (In.keep (le_below hb0) _ _ hx))
  have HB0 := Lib.hid hb0
  clear hb0 hT hx
  go_enter Tryd.func35, Tryd.ntmps35
  go_wp2_with fail
  refine HC.out.mono ?_
  rintro e' w2 ⟨rfl, hb2⟩
  have HB2 := Lib.hid (HB0.out.trans (hb2.mono HB0.out.size))
  clear hb2
  go_wp2_with fail
  go_ret
  exact ⟨rfl, HB2.out⟩

end Go.Proofs.YtfconmjgedaifaaDoor

