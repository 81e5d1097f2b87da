/- Faults in memory; the document's Above, the laws' Faults (layer 13). -/
import Derived.Test.YtccacjkogdmleaaDoorGa
import Derived.Test.YtccacjkogdmleaaDoorJd
import Derived.Laws.StructEq
namespace Go.Proofs.YtccacjkogdmleaaDoor
open Go.RowKit Js

theorem add_at13 (g o j : Nat) : (⟨g, o, none⟩ : Addr).add j = ⟨g, o + j, none⟩ := by
  unfold Addr.add
  by_cases hj0 : j = 0 <;> simp [hj0]
theorem Fl.gtr_form (a b : List UInt8) : (!Op.bytesLess a b && !(a == b)) = Op.bytesLess b a := by
  rw [Nm.less_bytes, Nm.less_bytes]
  rcases Fl.less_tri a b with h | h | h
  · have h2 : ¬ Lib.compareBytes b a = -1 := by rw [Nm.bytes_flip]; omega
    rw [decide_eq_true h, decide_eq_false h2]; rfl
  · subst h
    simp [Nm.bytes_self]
  · have h2 : ¬ Lib.compareBytes a b = -1 := by rw [Nm.bytes_flip]; omega
    have h3 : (a == b) = false := by rw [beq_eq_false_iff_ne]; rintro rfl; exact Fl.less_no h
    rw [decide_eq_true h, decide_eq_false h2, h3]; rfl
theorem Fl.gtr_ne {a b : List UInt8} (h : ¬ a = b) : (!Op.bytesLess a b) = Op.bytesLess b a := by
  have := Fl.gtr_form a b
  rwa [show (a == b) = false by rw [beq_eq_false_iff_ne]; exact h, Bool.not_false, Bool.and_true] at this
/-- A fault as a value; faults as cells, in a row. -/
def fCells (f : Fl.F) : List Value := [.string ⟨f.inst.toArray⟩, .string ⟨f.sch.toArray⟩, .string ⟨f.kw.toArray⟩]
def fV (f : Fl.F) : Value := .agg #[.string ⟨f.inst.toArray⟩, .string ⟨f.sch.toArray⟩, .string ⟨f.kw.toArray⟩]
def fFlat (l : List Fl.F) : List Value := l.flatMap fCells
def SlF (c : Cl) (A : Option Addr) (l : List Fl.F) : Prop := ∀ i f, l[i]? = some f → ∃ g o, A = some ⟨g, o, none⟩ ∧ c ⟨g, o + i * 3, none⟩ = some (.string ⟨f.inst.toArray⟩) ∧ c ⟨g, o + i * 3 + 1, none⟩ = some (.string ⟨f.sch.toArray⟩) ∧ c ⟨g, o + i * 3 + 2, none⟩ = some (.string ⟨f.kw.toArray⟩)
theorem SlF.keep {c c' : Cl} (h : c.le c') {A : Option Addr} {l : List Fl.F} (hs : SlF c A l) : SlF c' A l := fun i f hi => by
  obtain ⟨g, o, h0, h1, h2, h3⟩ := hs i f hi
  exact ⟨g, o, h0, h _ _ h1, h _ _ h2, h _ _ h3⟩
theorem fFlat_length (l : List Fl.F) : (fFlat l).length = l.length * 3 := by
  induction l with
  | nil => rfl
  | cons f r ih =>
    show (fCells f ++ fFlat r).length = _
    rw [List.length_append, ih, List.length_cons, show (fCells f).length = 3 from rfl]
    omega
theorem fFlat_append (a b : List Fl.F) : fFlat (a ++ b) = fFlat a ++ fFlat b := by simp [fFlat]
theorem fFlat_one (l : List Fl.F) : ∀ u ∈ fFlat l, u.oneCell' = true := by
  intro u hu
  obtain ⟨f, _, hf⟩ := List.mem_flatMap.1 hu
  simp only [fCells, List.mem_cons, List.not_mem_nil, or_false] at hf
  rcases hf with rfl | rfl | rfl <;> rfl
theorem fFlat_at : ∀ {l : List Fl.F} {i : Nat} {f : Fl.F}, l[i]? = some f → ∀ q u, (fCells f)[q]? = some u → (fFlat l)[i * 3 + q]? = some u
  | [], i, f, h, _, _, _ => by simp at h
  | x :: r, 0, f, h, q, u, hu => by
    simp only [List.getElem?_cons_zero, Option.some.injEq] at h
    subst h
    show (fCells x ++ fFlat r)[0 * 3 + q]? = _
    have hq : q < 3 := (List.getElem?_eq_some_iff.1 hu).1
    rw [List.getElem?_append_left (by show 0 * 3 + q < 3; omega), Nat.zero_mul, Nat.zero_add]
    exact hu
  | x :: r, i + 1, f, h, q, u, hu => by
    simp only [List.getElem?_cons_succ] at h
    show (fCells x ++ fFlat r)[(i + 1) * 3 + q]? = _
    rw [List.getElem?_append_right (by show 3 ≤ (i + 1) * 3 + q; omega), show (i + 1) * 3 + q - (fCells x).length = i * 3 + q by show (i + 1) * 3 + q - 3 = _; omega]
    exact fFlat_at h q u hu
theorem fFlat_cell {l : List Fl.F} {j : Nat} {u : Value} (h : (fFlat l)[j]? = some u) : ∃ f, l[j / 3]? = some f ∧ (fCells f)[j % 3]? = some u := by
  have hj := (List.getElem?_eq_some_iff.1 h).1
  rw [fFlat_length] at hj
  have hd : j / 3 < l.length := by omega
  refine ⟨_, List.getElem?_eq_getElem hd, ?_⟩
  have hm : j % 3 < (fCells l[j / 3]).length := by show j % 3 < 3; omega
  have := fFlat_at (List.getElem?_eq_getElem hd) (j % 3) _ (List.getElem?_eq_getElem hm)
  rw [show j / 3 * 3 + j % 3 = j by omega, h] at this
  injection this with this
  rw [List.getElem?_eq_getElem hm, this]
theorem SlF.cell {c : Cl} {g o : Nat} {l : List Fl.F} (h : SlF c (some ⟨g, o, none⟩) l) {j : Nat} {u : Value} (hu : (fFlat l)[j]? = some u) : c ⟨g, o + j, none⟩ = some u := by
  obtain ⟨f, h1, h2⟩ := fFlat_cell hu
  obtain ⟨g', o', e, c0, c1, c2⟩ := h _ _ h1
  injection e with e
  injection e with e1 e2
  subst e1 e2
  have hj : o + j = o + j / 3 * 3 + j % 3 := by omega
  have hm : j % 3 < 3 := Nat.mod_lt _ (by omega)
  rw [hj]
  generalize j % 3 = m at h2 hm
  match m, h2, hm with
  | 0, h2, _ => injection h2 with h2; subst h2; exact c0
  | 1, h2, _ => injection h2 with h2; subst h2; exact c1
  | 2, h2, _ => injection h2 with h2; subst h2; exact c2
/-- What is appended of a list of faults, from a place on. -/
theorem SlF.src {w : World} {A : Option Addr} {l : List Fl.F} {cp k : Nat} (h : SlF w.cell? A l) (hA : A = none → cp = 0) (hk : k ≤ l.length) (hc : l.length ≤ cp) : Src w (if cp = k then A else A.map (·.add (k * 3))) (l.length - k) (cp - k) (fFlat (l.drop k)) := by
  cases A with
  | none =>
    have h0 := hA rfl
    have hl : l = [] := List.eq_nil_of_length_eq_zero (by omega)
    subst hl
    refine .inl ⟨?_, by simp, by omega, by simp [fFlat]⟩
    split <;> rfl
  | some ad =>
    by_cases e : cp = k
    · rw [if_pos e]
      have hd : l.drop k = [] := List.drop_eq_nil_of_le (by omega)
      exact .inr ⟨ad, rfl, fun j u hu => by rw [hd] at hu; simp [fFlat] at hu⟩
    · rw [if_neg e]
      refine .inr ⟨ad.add (k * 3), rfl, fun j u hu => ?_⟩
      have hj := (List.getElem?_eq_some_iff.1 hu).1
      rw [fFlat_length, List.length_drop] at hj
      have h0 : 0 < l.length := by omega
      obtain ⟨g, o, e1, _⟩ := h 0 _ (List.getElem?_eq_getElem h0)
      injection e1 with e1
      subst e1
      rw [add_at13, add_at13]
      have hf : (fFlat l)[k * 3 + j]? = some u := by
        have : fFlat l = fFlat (l.take k) ++ fFlat (l.drop k) := by rw [← fFlat_append, List.take_append_drop]
        rw [this, List.getElem?_append_right (by rw [fFlat_length, List.length_take]; omega), fFlat_length, List.length_take, show k * 3 + j - min k l.length * 3 = j by rw [Nat.min_eq_left hk]; omega]
        exact hu
      rw [Nat.add_assoc]
      exact h.cell hf
/-- .. and up to a place. -/
theorem SlF.srcTo {w : World} {A : Option Addr} {l : List Fl.F} {cp k : Nat} (h : SlF w.cell? A l) (hA : A = none → cp = 0) (hk : k ≤ l.length) (hc : l.length ≤ cp) : Src w (if cp = 0 then A else A.map (·.add (0 * 3))) k cp (fFlat (l.take k)) := by
  cases A with
  | none =>
    have h0 := hA rfl
    refine .inl ⟨?_, by omega, h0, by rw [show k = 0 by omega]; rfl⟩
    split <;> rfl
  | some ad =>
    have hsp : ∀ ad' : Addr, (∀ g o, ad = ⟨g, o, none⟩ → ad' = ad) → ∀ (j : Nat) u, (fFlat (l.take k))[j]? = some u → w.cell? (ad'.add j) = some u := fun ad' had j u hu => by
      have hj := (List.getElem?_eq_some_iff.1 hu).1
      rw [fFlat_length, List.length_take] at hj
      have h0 : 0 < l.length := by omega
      obtain ⟨g, o, e1, _⟩ := h 0 _ (List.getElem?_eq_getElem h0)
      injection e1 with e1
      rw [had g o e1]
      subst e1
      rw [add_at13]
      have hf : (fFlat l)[j]? = some u := by
        have : fFlat l = fFlat (l.take k) ++ fFlat (l.drop k) := by rw [← fFlat_append, List.take_append_drop]
        rw [this, List.getElem?_append_left (by rw [fFlat_length, List.length_take]; omega)]
        exact hu
      exact h.cell hf
    by_cases e : cp = 0
    · rw [if_pos e]
      exact .inr ⟨ad, rfl, hsp ad (fun _ _ _ => rfl)⟩
    · rw [if_neg e]
      exact .inr ⟨ad.add (0 * 3), rfl, hsp _ (fun g o e => by rw [e, add_at13]; rfl)⟩
/-- A row of one's own, as a list of faults. -/
theorem own_slF {w : World} {B n c : Nat} {A : Option Addr} {l : List Fl.F} (h : w.ownsRow B 28 3 (.slice A n c) n (fFlat l)) : SlF w.cell? A l ∧ n = l.length ∧ n ≤ c ∧ c ≤ maxLen ∧ (A = none → c = 0) := by
  have hl := own_le h
  have hn : n = l.length := by have := h.1; rw [fFlat_length] at this; omega
  refine ⟨fun i f hi => ?_, hn, hl.1, hl.2.1, fun e => (hl.2.2.1 e).2⟩
  have hil := (List.getElem?_eq_some_iff.1 hi).1
  cases A with
  | none => have := (hl.2.2.1 rfl).1; omega
  | some ad =>
    obtain ⟨g, rfl, _⟩ := hl.2.2.2 ad rfl
    have hc := fun q u (hu : (fCells f)[q]? = some u) => own_cell h _ _ (fFlat_at hi q u hu)
    exact ⟨g, 0, rfl, by rw [Nat.zero_add]; exact hc 0 _ rfl, by rw [Nat.zero_add]; exact hc 1 _ rfl, by rw [Nat.zero_add]; exact hc 2 _ rfl⟩
theorem infoFault : ∃ i, Tryd.prog.info? 28 = some i ∧ i.zero = some (.agg #[.string ⟨#[]⟩, .string ⟨#[]⟩, .string ⟨#[]⟩]) ∧ i.size = 3 ∧ i.bytes = 48 := by
  have h : (Tryd.prog.info? 28).map (fun i => (i.zero, i.size, i.bytes)) = some (some (.agg #[.string ⟨#[]⟩, .string ⟨#[]⟩, .string ⟨#[]⟩]), 3, 48) := by kernel_rfl
  cases hq : Tryd.prog.info? 28 with
  | none => rw [hq] at h; cases h
  | some i =>
    rw [hq] at h
    simp only [Option.map_some, Option.some.injEq, Prod.mk.injEq] at h
    exact ⟨i, rfl, h.1, h.2.1, h.2.2⟩

set_option linter.unusedVariables false in
set_option linter.unusedSimpArgs false in
set_option maxRecDepth 100000 in
set_option maxHeartbeats 2000000 in
theorem refAbove_any (a b : Fl.F) (w : World) : Calls Tryd.prog 12 #[fV a, fV b] w fun e w' => e = .returned (.bool (Fl.above a b)) ∧ Below w.heap.size w w' := by
  obtain ⟨a1, a2, a3⟩ := a
  obtain ⟨b1, b2, b3⟩ := b
  have hb : ∀ X Y : Obj, Below w.heap.size w ((w.alloc X).alloc Y) := fun X Y => ((Below.refl _ _).alloc (Nat.le_refl _) X).alloc (by simp) Y
  have HBB := Lib.hid hb
  clear hb
  unfold fV Fl.above
  simp only
  by_cases h1 : a1 = b1
  · subst h1
    rw [if_pos rfl]
    by_cases h2 : a2 = b2
    · subst h2
      rw [if_pos rfl]
      go_enter Tryd.func12, Tryd.ntmps12
      go_wp2_with fail
      go_ret
      exact ⟨congrArg (fun q => Ending.returned (.bool q)) (Fl.gtr_form _ _), HBB.out _ _⟩
    · rw [if_neg h2]
      have e2 : (a2 == b2) = false := by rw [beq_eq_false_iff_ne]; exact h2
      go_enter Tryd.func12, Tryd.ntmps12
      go_wp2_with fail
      go_ret
      exact ⟨congrArg (fun q => Ending.returned (.bool q)) (Fl.gtr_ne h2), HBB.out _ _⟩
  · rw [if_neg h1]
    have e1 : (a1 == b1) = false := by rw [beq_eq_false_iff_ne]; exact h1
    go_enter Tryd.func12, Tryd.ntmps12
    go_wp2_with fail
    go_ret
    exact ⟨congrArg (fun q => Ending.returned (.bool q)) (Fl.gtr_ne h1), HBB.out _ _⟩

set_option linter.unusedVariables false in
set_option linter.unusedSimpArgs false in
set_option maxRecDepth 100000 in
set_option maxHeartbeats 2000000 in
/-- The laws' Faults, of two lists that are one. -/
theorem sameF_any (l : List Fl.F) (A : Option Addr) (cA : Nat) (B : Option Addr) (cB : Nat) (w : World) (ha : SlF w.cell? A l) (hb : SlF w.cell? B l) (h1 : l.length ≤ cA) (h2 : cA ≤ maxLen) (h3 : l.length ≤ cB) (h4 : cB ≤ maxLen) :
    Calls Tryd.prog 8 #[.slice A l.length cA, .slice B l.length cB] w fun e w' => e = .returned (.int .i64 1) ∧ Below w.heap.size w w' := by
  have HA := Lib.hid ha
  have HB := Lib.hid hb
  unfold maxLen at h2 h4
  clear ha hb
  go_enter Tryd.func8, Tryd.ntmps8
  go_wp2_with fail
  go_loopw [5] (fun i wr => ∃ j : Nat, j ≤ l.length ∧ i = .int .i64 j ∧ Below w.heap.size w wr) (fun i _ => l.length - (intOf i).toNat)
  case atStart => exact ⟨0, by omega, rfl, Below.refl _ _⟩
  case round =>
    obtain ⟨j, hj, rfl, hbw⟩ := hrel
    have HW := Lib.hid hbw
    clear hbw
    by_cases hlt : j < l.length
    · obtain ⟨g, o, rfl, c0, c1, c2⟩ := HA.out j _ (List.getElem?_eq_getElem hlt)
      obtain ⟨g', o', rfl, d0, d1, d2⟩ := HB.out j _ (List.getElem?_eq_getElem hlt)
      have c0 := (le_below HW.out) _ _ c0
      have c1 := (le_below HW.out) _ _ c1
      have c2 := (le_below HW.out) _ _ c2
      have d0 := (le_below HW.out) _ _ d0
      have d1 := (le_below HW.out) _ _ d1
      have d2 := (le_below HW.out) _ _ d2
      have hgl := World.block_lt_of_cell? _ _ c0
      have hgl' := World.block_lt_of_cell? _ _ d0
      have hjj : (j : Int) < (l.length : Int) := by omega
      generalize l[j]'hlt = f at *
      obtain ⟨f1, f2, f3⟩ := f
      simp only at c0 c1 c2 d0 d1 d2
      go_wp2_with fail
      go_quiet (fail)
      go_wp2_with fail
      go_roundw
      case rel => exact ⟨j + 1, by omega, by go_num, below_drewN HW.out _⟩
      case measure => simp [intOf]; omega
    · obtain rfl : j = l.length := by omega
      go_wp2_with fail
      go_ret
      exact ⟨rfl, HW.out⟩

end Go.Proofs.YtccacjkogdmleaaDoor

