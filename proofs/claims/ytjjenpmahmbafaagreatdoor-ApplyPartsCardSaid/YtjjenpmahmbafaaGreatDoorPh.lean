/- The laws of layer 5 (show): the document's Show. -/
import Derived.Test.YtjjenpmahmbafaaGreatDoorOa
import Derived.Test.YtjjenpmahmbafaaGreatDoorMo
import Derived.Test.YtjjenpmahmbafaaGreatDoorSf
namespace Go.Proofs.YtjjenpmahmbafaaGreatDoor
open Go.RowKit Js

def Joining (w : World) (k : Int) (b : Bool) (n : Nm.Num) (s : List UInt8) (lv mv : Value) (len : Nat) (f : Nat → List UInt8) (t i : Value) (wr : World) : Prop :=
  ∃ j : Nat, j ≤ len ∧ i = .int .i64 j ∧ t = .string ⟨(f j).toArray⟩ ∧ Boxed w k b n.neg n.digits n.exp s lv mv wr

def RefC (v : Vl) : Prop := ∀ (x : Value) (w : World), v.In w.cell? x → v.may = true → v.shown.length ≤ 1000000 →
  Calls Tryz.prog 12 #[x] w fun e w' => e = .returned (.string ⟨v.shown.toArray⟩) ∧ Below w.heap.size w w'

set_option linter.unusedSimpArgs false in
set_option linter.unusedVariables false in
set_option maxRecDepth 100000 in
set_option maxHeartbeats 1000000 in
theorem refShowL (b : Bool) (n : Nm.Num) (s : List UInt8) (l : List Vl) (hl : ∀ v ∈ l, RefC v) (A : Option Addr) (e : Nat) (B : Option Addr) (d md : Nat) (w : World) (q1 : l.length ≤ e) (q2 : e ≤ maxLen) (q5 : SlL w.cell? A l) (hmay : mayL l = true) (hlen : (shownL l).length + 2 ≤ 1000001) :
    Calls Tryz.prog 12 #[vlV 4 b n.neg n.digits n.exp s (.slice A l.length e) (.slice B md d)] w fun e w' => e = .returned (.string ⟨(91 :: ((shownL l).tail ++ [93])).toArray⟩) ∧ Below w.heap.size w w' := by
  unfold maxLen at q2
  have HL := Lib.hid hl
  have H5 := Lib.hid q5
  have HMAY := Lib.hid hmay
  clear hl q5 hmay
  go_enter Tryz.func12, Tryz.ntmps12
  go_wp2_with fail
  go_loopw [3, 4] (Joining w 4 b n s (.slice A l.length e) (.slice B md d) l.length (fun j => (shownL (l.take j)).tail)) (fun _ i _ => l.length - (intOf i).toNat)
  case atStart => exact ⟨0, by omega, rfl, by simp [shownL], Boxed.start⟩
  case round =>
    obtain ⟨j, hj, rfl, rfl, hW⟩ := hrel
    obtain ⟨f0, f1, f2, f3, f4, f5, f6, f7⟩ := hW.cells
    by_cases hlt : j < l.length
    · obtain ⟨g, o, y, rfl, hy, hc⟩ := H5.out j _ (List.getElem?_eq_getElem hlt)
      have hcr := hc.keep hW.le
      obtain ⟨k1, b1, n1, g1, x1, s1, A1, l1, p1, B1, m1, d1, rfl⟩ := In.cells hy
      have HY := Lib.hid (In.keep hW.le _ _ hy)
      obtain ⟨e0, e1, e2, e3, e4, e5, e6, e7⟩ := hcr.eight
      have hlen1 := shownL_len l j hlt
      have htl := tail_len (shownL (l.take j))
      have HTK := Lib.hid (shownL_take l j hlt)
      have hle : l[j].shown.length ≤ 1000000 := by omega
      have HC := Lib.hid (HL.out l[j] (List.getElem_mem _) _ _ HY.out (may_at HMAY.out hlt) hle)
      have HW := Lib.hid hW
      have hb := hW.below
      have hne0 : 0 < j → 1 ≤ (shownL (l.take j)).length := by
        intro h0
        cases hq : l.take j with
        | nil => have := congrArg List.length hq; rw [List.length_take, List.length_nil] at this; omega
        | cons a r => simp [shownL]
      have HF := Lib.hid (show (shownL (l.take (j + 1))).tail = if 0 < j then ((shownL (l.take j)).tail ++ [44]) ++ l[j].shown else l[j].shown by
        rw [HTK.out]
        by_cases h0 : 0 < j
        · rw [if_pos h0]
          have := hne0 h0
          cases hq : shownL (l.take j) with
          | nil => rw [hq] at this; simp at this
          | cons a r => simp
        · rw [if_neg h0]
          obtain rfl : j = 0 := by omega
          simp [shownL])
      clear hcr hc hy hne0
      dsimp only
      by_cases h0 : 0 < j
      · have hd0 : decide (0 < j) = true := by simp [h0]
        have HG := Lib.hid (show (shownL (l.take (j + 1))).tail = ((shownL (l.take j)).tail ++ [44]) ++ l[j].shown by rw [HF.out, if_pos h0])
        have hq1 := fun W => cat_mk W (shownL (l.take j)).tail [44] (by simp only [List.length_singleton, htl]; omega)
        have hq2 := fun W => cat_mk W ((shownL (l.take j)).tail ++ [44]) l[j].shown (by simp only [List.length_append, List.length_singleton, htl]; omega)
        clear HF htl hlen1 hle h0
        generalize (shownL (l.take j)).tail = ta at *
        generalize l[j].shown = tv at *
        generalize ht2 : ta ++ [44] = tb at *
        generalize ht3 : tb ++ tv = tc at *
        have HZ := Lib.hid ht2
        have HZ3 := Lib.hid ht3
        clear ht2 ht3
        go_wp2_with fail
        refine HC.out.mono ?_
        rintro e' w2 ⟨rfl, hb2⟩
        go_wp2_with fail
        go_roundw
        case rel => exact ⟨j + 1, by omega, by go_num, by show _ = Value.string ⟨((shownL (l.take (j + 1))).tail).toArray⟩; rw [HG.out], HW.out.next hb2⟩
        case measure => simp [intOf]; omega
      · have hd0 : decide (0 < j) = false := by simp [h0]
        have HG := Lib.hid (show (shownL (l.take (j + 1))).tail = l[j].shown by rw [HF.out, if_neg h0])
        have HTA := Lib.hid (show (shownL (l.take j)).tail = [] by obtain rfl : j = 0 := (by omega); simp [shownL])
        have hq2 := fun W => cat_mk W [] l[j].shown (by simp only [List.length_nil]; omega)
        clear HF htl hlen1 hle h0
        rw [HTA.out]
        rw [List.nil_append] at hq2
        generalize l[j].shown = tv at *
        go_wp2_with fail
        refine HC.out.mono ?_
        rintro e' w2 ⟨rfl, hb2⟩
        go_wp2_with fail
        go_roundw
        case rel => exact ⟨j + 1, by omega, by go_num, by show _ = Value.string ⟨((shownL (l.take (j + 1))).tail).toArray⟩; rw [HG.out], HW.out.next hb2⟩
        case measure => simp [intOf]; omega
    · obtain rfl : j = l.length := by omega
      have HT := Lib.hid (show l.take l.length = l from List.take_length)
      dsimp only
      rw [HT.out]
      have htl := tail_len (shownL l)
      have hq1 := fun W => cat_mk W [91] (shownL l).tail (by simp only [List.length_singleton, htl]; omega)
      have hq2 := fun W => cat_mk W ([91] ++ (shownL l).tail) [93] (by simp only [List.length_append, List.length_singleton, htl]; omega)
      have HG := Lib.hid (show (91 :: ((shownL l).tail ++ [93])) = ([91] ++ (shownL l).tail) ++ [93] by simp)
      have hb := hW.below
      clear htl hlen
      generalize ht2 : [91] ++ (shownL l).tail = tb at *
      generalize hta : (shownL l).tail = ta at *
      have HTA := Lib.hid hta
      clear hta
      generalize ht3 : tb ++ [93] = tc at *
      have HZ := Lib.hid ht2
      clear ht2 ht3
      go_wp2_with fail
      go_ret
      exact ⟨by rw [HTA.out, HG.out]; rfl, hb⟩

def MemHeld (nb : Nat) (mv : Value) (g p : Nat) (key c0 c1 c2 c3 c4 c5 c6 c7 : Value) (wr w' : World) : Prop :=
  w'.cell? ⟨nb, 7, none⟩ = some mv ∧ w'.cell? ⟨g, p, none⟩ = some key ∧
    (w'.cell? ⟨g, p + 1, none⟩ = some c0 ∧ w'.cell? ⟨g, p + 1 + 1, none⟩ = some c1 ∧ w'.cell? ⟨g, p + 1 + 2, none⟩ = some c2 ∧ w'.cell? ⟨g, p + 1 + 3, none⟩ = some c3 ∧ w'.cell? ⟨g, p + 1 + 4, none⟩ = some c4 ∧ w'.cell? ⟨g, p + 1 + 5, none⟩ = some c5 ∧ w'.cell? ⟨g, p + 1 + 6, none⟩ = some c6 ∧ w'.cell? ⟨g, p + 1 + 7, none⟩ = some c7) ∧ Below wr.heap.size wr w'
section
variable {nb : Nat} {mv : Value} {g p : Nat} {key c0 c1 c2 c3 c4 c5 c6 c7 : Value} {wr w' w'' : World}
theorem MemHeld.on (h : MemHeld nb mv g p key c0 c1 c2 c3 c4 c5 c6 c7 wr w') (hb : Below w'.heap.size w' w'') : MemHeld nb mv g p key c0 c1 c2 c3 c4 c5 c6 c7 wr w'' := by
  have hc := le_below hb
  obtain ⟨h1, h2, ⟨q0, q1, q2, q3, q4, q5, q6, q7⟩, h3⟩ := h
  exact ⟨hc _ _ h1, hc _ _ h2, ⟨hc _ _ q0, hc _ _ q1, hc _ _ q2, hc _ _ q3, hc _ _ q4, hc _ _ q5, hc _ _ q6, hc _ _ q7⟩, h3.trans (hb.mono h3.size)⟩
theorem MemHeld.drew (h : MemHeld nb mv g p key c0 c1 c2 c3 c4 c5 c6 c7 wr w') : MemHeld nb mv g p key c0 c1 c2 c3 c4 c5 c6 c7 wr w'.drew :=
  ⟨h.1, h.2.1, h.2.2.1, h.2.2.2.drew⟩
theorem MemHeld.below (h : MemHeld nb mv g p key c0 c1 c2 c3 c4 c5 c6 c7 wr w') : Below wr.heap.size wr w' := h.2.2.2
end

set_option linter.unusedSimpArgs false in
set_option linter.unusedVariables false in
set_option maxRecDepth 100000 in
set_option maxHeartbeats 2000000 in
theorem refShowM (b : Bool) (n : Nm.Num) (s : List UInt8) (m : List Js.Mem) (hm : ∀ p ∈ m, RefC p.2) (A : Option Addr) (e : Nat) (B : Option Addr) (d ml : Nat) (w : World) (q1 : m.length ≤ d) (q2 : d ≤ maxLen) (q5 : SlM w.cell? B m) (hmay : mayM m = true) (hlen : (shownM m).length + 2 ≤ 1000001) :
    Calls Tryz.prog 12 #[vlV 5 b n.neg n.digits n.exp s (.slice A ml e) (.slice B m.length d)] w fun e w' => e = .returned (.string ⟨(123 :: ((shownM m).tail ++ [125])).toArray⟩) ∧ Below w.heap.size w w' := by
  unfold maxLen at q2
  have HM := Lib.hid hm
  have H5 := Lib.hid q5
  have HMAY := Lib.hid hmay
  clear hm q5 hmay
  go_enter Tryz.func12, Tryz.ntmps12
  go_wp2_with fail
  go_loopw [3, 5] (Joining w 5 b n s (.slice A ml e) (.slice B m.length d) m.length (fun j => (shownM (m.take j)).tail)) (fun _ i _ => m.length - (intOf i).toNat)
  case atStart => exact ⟨0, by omega, rfl, by simp [shownM], Boxed.start⟩
  case round =>
    obtain ⟨j, hj, rfl, rfl, hW⟩ := hrel
    obtain ⟨f0, f1, f2, f3, f4, f5, f6, f7⟩ := hW.cells
    by_cases hlt : j < m.length
    · obtain ⟨g, o, y, rfl, hy, hk, hc⟩ := H5.out j _ (List.getElem?_eq_getElem hlt)
      have hcr := hc.keep hW.le
      obtain ⟨k1, b1, n1, g1, x1, s1, A1, l1, p1, B1, m1, d1, rfl⟩ := In.cells hy
      have HY := Lib.hid (In.keep hW.le _ _ hy)
      have HEC := Lib.hid hcr.eight
      have HEK := Lib.hid (hW.le _ _ hk)
      have hlen1 := shownM_len m j hlt
      have htl := tail_len (shownM (m.take j))
      have HTK := Lib.hid (shownM_take m j hlt)
      have HMV := Lib.hid (may_atM HMAY.out hlt)
      have HCR := Lib.hid (HM.out m[j] (List.getElem_mem _))
      have HW := Lib.hid hW
      have hb := hW.below
      have hne0 : 0 < j → 1 ≤ (shownM (m.take j)).length := by
        intro h0
        cases hq : m.take j with
        | nil => have := congrArg List.length hq; rw [List.length_take, List.length_nil] at this; omega
        | cons a r => simp [shownM]
      have HF := Lib.hid (show (shownM (m.take (j + 1))).tail = if 0 < j then (((shownM (m.take j)).tail ++ [44]) ++ St.quote m[j].1) ++ [58] ++ m[j].2.shown else ((shownM (m.take j)).tail ++ St.quote m[j].1) ++ [58] ++ m[j].2.shown by
        rw [HTK.out]
        by_cases h0 : 0 < j
        · rw [if_pos h0]
          have := hne0 h0
          cases hq : shownM (m.take j) with
          | nil => rw [hq] at this; simp at this
          | cons a r => simp
        · rw [if_neg h0]
          obtain rfl : j = 0 := by omega
          simp [shownM])
      generalize m[j] = p at *
      obtain ⟨key, v⟩ := p
      simp only at HTK HF HMV HCR HEK HY hlen1
      have hqk : key.length ≤ 1000000 := by have := qb_ge key; have := St.quote_length key; omega
      have HQ := Lib.hid (fun W => refQuote_any ⟨key.toArray⟩ W (by rw [Lib.size_mk]; exact hqk))
      have HC := Lib.hid (show ∀ W, Below wr.heap.size wr W → Calls Tryz.prog 12 #[_] W fun e w' => e = .returned (.string ⟨v.shown.toArray⟩) ∧ Below W.heap.size W w' from fun W hbw => HCR.out _ W (In.keep (le_below hbw) _ _ HY.out) HMV.out (by omega))
      have HHELD := Lib.hid (show MemHeld w.heap.size (.slice (some ⟨g, o, none⟩) m.length d) g (o + j * 9) (.string ⟨key.toArray⟩) (.int .i64 k1) (.bool b1) (.bool n1) (.string ⟨g1.toArray⟩) (.int .i64 x1) (.string ⟨s1.toArray⟩) (.slice A1 l1 p1) (.slice B1 m1 d1) wr wr from ⟨f7, HEK.out, HEC.out, Below.refl _ _⟩)
      clear hcr hc hy hk hne0 HTK HMV HCR HEC HEK hqk
      dsimp only
      by_cases h0 : 0 < j
      · have hd0 : decide (0 < j) = true := by simp [h0]
        have HG := Lib.hid (show (shownM (m.take (j + 1))).tail = (((shownM (m.take j)).tail ++ [44]) ++ St.quote key) ++ [58] ++ v.shown by rw [HF.out, if_pos h0])
        have hq1 := fun W => cat_mk W (shownM (m.take j)).tail [44] (by simp only [List.length_singleton, htl]; omega)
        have hq2 := fun W => cat_mk W ((shownM (m.take j)).tail ++ [44]) (St.quote key) (by simp only [List.length_append, List.length_singleton, htl]; omega)
        have hq3 := fun W => cat_mk W (((shownM (m.take j)).tail ++ [44]) ++ St.quote key) [58] (by simp only [List.length_append, List.length_singleton, htl]; omega)
        have hq4 := fun W => cat_mk W ((((shownM (m.take j)).tail ++ [44]) ++ St.quote key) ++ [58]) v.shown (by simp only [List.length_append, List.length_singleton, htl]; omega)
        clear HF htl hlen1 h0
        generalize (shownM (m.take j)).tail = ta at *
        generalize ht2 : ta ++ [44] = tb at *
        generalize ht3 : tb ++ St.quote key = tc at *
        generalize ht4 : tc ++ [58] = td at *
        generalize ht5 : td ++ v.shown = te at *
        have HZ := Lib.hid (And.intro ht2 (And.intro ht3 (And.intro ht4 ht5)))
        clear ht2 ht3 ht4 ht5
        go_upto_region 26 with (fail)
        go_region_held3 (fun w' => w'.cell? ⟨w.heap.size, 7, none⟩ = some (.slice (some ⟨g, o, none⟩) m.length d) ∧ w'.cell? ⟨g, o + j * 9, none⟩ = some (.string ⟨key.toArray⟩) ∧ (w'.cell? ⟨g, o + j * 9 + 1, none⟩ = some (.int .i64 k1) ∧ w'.cell? ⟨g, o + j * 9 + 1 + 1, none⟩ = some (.bool b1) ∧ w'.cell? ⟨g, o + j * 9 + 1 + 2, none⟩ = some (.bool n1) ∧ w'.cell? ⟨g, o + j * 9 + 1 + 3, none⟩ = some (.string ⟨g1.toArray⟩) ∧ w'.cell? ⟨g, o + j * 9 + 1 + 4, none⟩ = some (.int .i64 x1) ∧ w'.cell? ⟨g, o + j * 9 + 1 + 5, none⟩ = some (.string ⟨s1.toArray⟩) ∧ w'.cell? ⟨g, o + j * 9 + 1 + 6, none⟩ = some (.slice A1 l1 p1) ∧ w'.cell? ⟨g, o + j * 9 + 1 + 7, none⟩ = some (.slice B1 m1 d1)) ∧ Below wr.heap.size wr w')
          ((show MemHeld w.heap.size (.slice (some ⟨g, o, none⟩) m.length d) g (o + j * 9) (.string ⟨key.toArray⟩) (.int .i64 k1) (.bool b1) (.bool n1) (.string ⟨g1.toArray⟩) (.int .i64 x1) (.string ⟨s1.toArray⟩) (.slice A1 l1 p1) (.slice B1 m1 d1) wr _; with_reducible first | exact ht | exact HHELD.out | exact MemHeld.drew HHELD.out))
          (first | (go_at_call 26; refine (HQ.out _).mono ?_; rintro e w6 ⟨rfl, hb6⟩; have ht := MemHeld.on (by with_reducible first | exact ht | exact HHELD.out | exact MemHeld.drew HHELD.out) hb6; clear hb6) | (go_at_call 12; refine (HC.out _ (by have hp : MemHeld w.heap.size (.slice (some ⟨g, o, none⟩) m.length d) g (o + j * 9) (.string ⟨key.toArray⟩) (.int .i64 k1) (.bool b1) (.bool n1) (.string ⟨g1.toArray⟩) (.int .i64 x1) (.string ⟨s1.toArray⟩) (.slice A1 l1 p1) (.slice B1 m1 d1) wr _ := (by with_reducible first | exact ht | exact HHELD.out | exact MemHeld.drew HHELD.out); exact hp.below)).mono ?_; rintro e w6 ⟨rfl, hb6⟩; have ht := MemHeld.on (by with_reducible first | exact ht | exact HHELD.out | exact MemHeld.drew HHELD.out) hb6; clear hb6))
        have hbl := ht.below
        clear ht
        go_wp2_with fail
        go_roundw
        case rel => exact ⟨j + 1, by omega, by go_num, by show _ = Value.string ⟨((shownM (m.take (j + 1))).tail).toArray⟩; rw [HG.out], HW.out.next hbl⟩
        case measure => simp [intOf]; omega
      · have hd0 : decide (0 < j) = false := by simp [h0]
        have HG := Lib.hid (show (shownM (m.take (j + 1))).tail = (St.quote key ++ [58]) ++ v.shown by
          have hz : (shownM (m.take j)).tail = [] := by obtain rfl : j = 0 := (by omega); simp [shownM]
          rw [HF.out, if_neg h0, hz, List.nil_append])
        have HTA := Lib.hid (show (shownM (m.take j)).tail = [] by obtain rfl : j = 0 := (by omega); simp [shownM])
        have hq2 := fun W => cat_mk W [] (St.quote key) (by simp only [List.length_nil]; omega)
        have hq3 := fun W => cat_mk W (St.quote key) [58] (by simp only [List.length_singleton]; omega)
        have hq4 := fun W => cat_mk W (St.quote key ++ [58]) v.shown (by simp only [List.length_append, List.length_singleton]; omega)
        clear HF htl hlen1 h0
        rw [HTA.out]
        rw [List.nil_append] at hq2
        generalize ht4 : St.quote key ++ [58] = td at *
        generalize ht5 : td ++ v.shown = te at *
        have HZ := Lib.hid (And.intro ht4 ht5)
        clear ht4 ht5
        go_upto_region 26 with (fail)
        go_region_held3 (fun w' => w'.cell? ⟨w.heap.size, 7, none⟩ = some (.slice (some ⟨g, o, none⟩) m.length d) ∧ w'.cell? ⟨g, o + j * 9, none⟩ = some (.string ⟨key.toArray⟩) ∧ (w'.cell? ⟨g, o + j * 9 + 1, none⟩ = some (.int .i64 k1) ∧ w'.cell? ⟨g, o + j * 9 + 1 + 1, none⟩ = some (.bool b1) ∧ w'.cell? ⟨g, o + j * 9 + 1 + 2, none⟩ = some (.bool n1) ∧ w'.cell? ⟨g, o + j * 9 + 1 + 3, none⟩ = some (.string ⟨g1.toArray⟩) ∧ w'.cell? ⟨g, o + j * 9 + 1 + 4, none⟩ = some (.int .i64 x1) ∧ w'.cell? ⟨g, o + j * 9 + 1 + 5, none⟩ = some (.string ⟨s1.toArray⟩) ∧ w'.cell? ⟨g, o + j * 9 + 1 + 6, none⟩ = some (.slice A1 l1 p1) ∧ w'.cell? ⟨g, o + j * 9 + 1 + 7, none⟩ = some (.slice B1 m1 d1)) ∧ Below wr.heap.size wr w')
          ((show MemHeld w.heap.size (.slice (some ⟨g, o, none⟩) m.length d) g (o + j * 9) (.string ⟨key.toArray⟩) (.int .i64 k1) (.bool b1) (.bool n1) (.string ⟨g1.toArray⟩) (.int .i64 x1) (.string ⟨s1.toArray⟩) (.slice A1 l1 p1) (.slice B1 m1 d1) wr _; with_reducible first | exact ht | exact HHELD.out | exact MemHeld.drew HHELD.out))
          (first | (go_at_call 26; refine (HQ.out _).mono ?_; rintro e w6 ⟨rfl, hb6⟩; have ht := MemHeld.on (by with_reducible first | exact ht | exact HHELD.out | exact MemHeld.drew HHELD.out) hb6; clear hb6) | (go_at_call 12; refine (HC.out _ (by have hp : MemHeld w.heap.size (.slice (some ⟨g, o, none⟩) m.length d) g (o + j * 9) (.string ⟨key.toArray⟩) (.int .i64 k1) (.bool b1) (.bool n1) (.string ⟨g1.toArray⟩) (.int .i64 x1) (.string ⟨s1.toArray⟩) (.slice A1 l1 p1) (.slice B1 m1 d1) wr _ := (by with_reducible first | exact ht | exact HHELD.out | exact MemHeld.drew HHELD.out); exact hp.below)).mono ?_; rintro e w6 ⟨rfl, hb6⟩; have ht := MemHeld.on (by with_reducible first | exact ht | exact HHELD.out | exact MemHeld.drew HHELD.out) hb6; clear hb6))
        have hbl := ht.below
        clear ht
        go_wp2_with fail
        go_roundw
        case rel => exact ⟨j + 1, by omega, by go_num, by show _ = Value.string ⟨((shownM (m.take (j + 1))).tail).toArray⟩; rw [HG.out], HW.out.next hbl⟩
        case measure => simp [intOf]; omega
    · obtain rfl : j = m.length := by omega
      have HT := Lib.hid (show m.take m.length = m from List.take_length)
      dsimp only
      rw [HT.out]
      have htl := tail_len (shownM m)
      have hq1 := fun W => cat_mk W [123] (shownM m).tail (by simp only [List.length_singleton, htl]; omega)
      have hq2 := fun W => cat_mk W ([123] ++ (shownM m).tail) [125] (by simp only [List.length_append, List.length_singleton, htl]; omega)
      have HG := Lib.hid (show (123 :: ((shownM m).tail ++ [125])) = ([123] ++ (shownM m).tail) ++ [125] by simp)
      have hb := hW.below
      clear htl hlen
      generalize ht2 : [123] ++ (shownM m).tail = tb at *
      generalize hta : (shownM m).tail = ta at *
      have HTA := Lib.hid hta
      clear hta
      generalize ht3 : tb ++ [125] = tc at *
      have HZ := Lib.hid ht2
      clear ht2 ht3
      go_wp2_with fail
      go_ret
      exact ⟨by rw [HTA.out, HG.out]; rfl, hb⟩

theorem refShowV_any (v : Vl) : RefC v := by
  induction v using Vl.ind with
  | h k b n s l m hl hm =>
  intro x w hx hmay hlen
  obtain ⟨A, e, B, d, rfl, q1, q2, q3, q4, q5, q6⟩ := In.form hx
  obtain ⟨m1, m2, m3, m4, m5, m6, m7, m8, m9, m10, m11, m12⟩ := may_own hmay
  have hk : k = 0 ∨ k = 1 ∨ k = 2 ∨ k = 3 ∨ k = 4 ∨ k = 5 := by omega
  have hcc : ∀ k, Below w.heap.size w (w.alloc (.cells #[.int .i64 k, .bool b, .bool n.neg, .string ⟨n.digits.toArray⟩, .int .i64 n.exp, .string ⟨s.toArray⟩, .slice A l.length e, .slice B m.length d] 28)) := fun k => (Below.refl _ _).alloc (Nat.le_refl _) _
  rcases hk with rfl | rfl | rfl | rfl | rfl | rfl
  · have HSH := Lib.hid (show (Vl.mk 0 b n s l m).shown = [110, 117, 108, 108] by simp [Vl.shown])
    have HB := Lib.hid (hcc 0)
    clear hl hm q5 q6 hx hmay m1 m2 m3 m4 m5 m6 m7 m8 m9 m10 m11 m12 hlen hcc
    go_enter Tryz.func12, Tryz.ntmps12
    go_wp2_with fail
    go_ret
    exact ⟨by rw [HSH.out]; rfl, HB.out⟩
  · have HSH := Lib.hid (show (Vl.mk 1 b n s l m).shown = if b then [116, 114, 117, 101] else [102, 97, 108, 115, 101] by simp [Vl.shown])
    have HB := Lib.hid (hcc 1)
    clear hl hm q5 q6 hx hmay m1 m2 m3 m4 m5 m6 m7 m8 m9 m10 m11 m12 hlen hcc
    cases b
    all_goals
      go_enter Tryz.func12, Tryz.ntmps12
      go_wp2_with fail
      go_ret
      exact ⟨by rw [HSH.out]; rfl, HB.out⟩
  · have HSH := Lib.hid (show (Vl.mk 2 b n s l m).shown = Nm.text n by simp [Vl.shown])
    have HB := Lib.hid (hcc 2)
    have HQ := Lib.hid (fun w => refShow_any n.neg n.digits n.exp w (mayNum_May m8).fair)
    clear hl hm q5 q6 hx hmay m1 m2 m3 m4 m5 m6 m7 m8 m9 m10 m11 m12 hlen hcc
    go_enter Tryz.func12, Tryz.ntmps12
    go_wp2_with fail
    refine (HQ.out _).mono ?_
    rintro e' w2 ⟨rfl, hb2⟩
    have HB2 := Lib.hid (HB.out.trans (hb2.mono HB.out.size))
    clear hb2
    go_wp2_with fail
    go_ret
    exact ⟨by rw [HSH.out]; rfl, HB2.out⟩
  · have hsh : (Vl.mk 3 b n s l m).shown = St.quote s := by simp [Vl.shown]
    have HSH := Lib.hid hsh
    have HB := Lib.hid (hcc 3)
    have HQ := Lib.hid (fun w => refQuote_any ⟨s.toArray⟩ w (by rw [Lib.size_mk]; rw [hsh] at hlen; have := qb_ge s; have := St.quote_length s; omega))
    clear hl hm q5 q6 hx hmay m1 m2 m3 m4 m5 m6 m7 m8 m9 m10 m11 m12 hlen hcc hsh
    go_enter Tryz.func12, Tryz.ntmps12
    go_wp2_with fail
    refine (HQ.out _).mono ?_
    rintro e' w2 ⟨rfl, hb2⟩
    have HB2 := Lib.hid (HB.out.trans (hb2.mono HB.out.size))
    clear hb2
    go_wp2_with fail
    go_ret
    exact ⟨by rw [HSH.out]; rfl, HB2.out⟩
  · have hsh : (Vl.mk 4 b n s l m).shown = 91 :: ((shownL l).tail ++ [93]) := by simp [Vl.shown]
    have htl := tail_len (shownL l)
    rw [hsh] at hlen ⊢
    exact refShowL b n s l hl A e B d m.length w q1 q2 q5 m10 (by simp only [List.length_cons, List.length_append, List.length_nil, htl] at hlen; omega)
  · have hsh : (Vl.mk 5 b n s l m).shown = 123 :: ((shownM m).tail ++ [125]) := by simp [Vl.shown]
    have htl := tail_len (shownM m)
    rw [hsh] at hlen ⊢
    exact refShowM b n s m hm A e B d l.length w q3 q4 q6 m11 (by simp only [List.length_cons, List.length_append, List.length_nil, htl] at hlen; omega)

end Go.Proofs.YtjjenpmahmbafaaGreatDoor

