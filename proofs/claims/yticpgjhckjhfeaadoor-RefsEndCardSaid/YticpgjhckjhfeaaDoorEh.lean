/- Rows of nodes and keywords that are cloned, and written item by item; which node each pointer is of (layer 12). -/
import Derived.Test.YticpgjhckjhfeaaDoorEg
import Derived.Test.YticpgjhckjhfeaaDoorEe
import Derived.Test.YticpgjhckjhfeaaDoorDm
import Derived.Test.YticpgjhckjhfeaaDoorLa
import Derived.Test.YticpgjhckjhfeaaDoorKe
import Derived.Maps.OwnSet
import Derived.WalkSpells
namespace Go.Proofs.YticpgjhckjhfeaaDoor
open Go.RowKit Js Pt

/-! Items one behind the other, wherever they lie. -/
def SlX {α : Type} (It : Cl → α → List Value → Prop) (k : Nat) (c : Cl) (A : Option Addr) (l : List α) : Prop :=
  ∀ i a, l[i]? = some a → ∃ g o cs, A = some ⟨g, o, none⟩ ∧ It c a cs ∧ ∀ (j : Nat) u, cs[j]? = some u → c ⟨g, o + i * k + j, none⟩ = some u
section
variable {α : Type} {It : Cl → α → List Value → Prop} {k : Nat}
theorem SlX.keep (hmono : ∀ {c c' : Cl}, c.le c' → ∀ {a cs}, It c a cs → It c' a cs) {c c' : Cl} (h : c.le c') {A : Option Addr} {l : List α} (hs : SlX It k c A l) : SlX It k c' A l := fun i a hi => by
  obtain ⟨g, o, cs, h1, h2, h3⟩ := hs i a hi
  exact ⟨g, o, cs, h1, hmono h h2, fun j u hu => h _ _ (h3 j u hu)⟩
/-- All their cells, as one list. -/
theorem SlX.flat (hlen : ∀ c a cs, It c a cs → cs.length = k) (hone : ∀ c a cs, It c a cs → ∀ u ∈ cs, u.oneCell' = true) {c : Cl} {A : Option Addr} {l : List α} (hs : SlX It k c A l) : ∀ n, n ≤ l.length →
    ∃ flat : List Value, flat.length = n * k ∧ (∀ u ∈ flat, u.oneCell' = true) ∧ (∀ i a, i < n → l[i]? = some a → ∃ cs, It c a cs ∧ ∀ (j : Nat) u, cs[j]? = some u → flat[i * k + j]? = some u) ∧ (∀ g o, A = some ⟨g, o, none⟩ → ∀ (j : Nat) u, flat[j]? = some u → c ⟨g, o + j, none⟩ = some u)
  | 0, _ => ⟨[], by simp, (fun u h => by cases h), (fun i a h => absurd h (Nat.not_lt_zero _)), fun g o _ j u h => by simp at h⟩
  | n + 1, hn => by
    obtain ⟨flat, h1, h2, h3, h4⟩ := SlX.flat hlen hone hs n (by omega)
    obtain ⟨g, o, cs, hA, hit, hc⟩ := hs n _ (List.getElem?_eq_getElem (by omega))
    have hcl := hlen _ _ _ hit
    refine ⟨flat ++ cs, by rw [List.length_append, h1, hcl, Nat.add_mul, Nat.one_mul], fun u hu => ?_, fun i a hi hl => ?_, fun g' o' hA' j u hu => ?_⟩
    · exact (List.mem_append.1 hu).elim (h2 u) (hone _ _ _ hit u)
    · by_cases e : i = n
      · subst e
        rw [List.getElem?_eq_getElem (by omega)] at hl
        injection hl with hl
        subst hl
        exact ⟨cs, hit, fun j u hu => by rw [List.getElem?_append_right (by omega), h1, Nat.add_sub_cancel_left]; exact hu⟩
      · obtain ⟨cs2, h5, h6⟩ := h3 i a (by omega) hl
        refine ⟨cs2, h5, fun j u hu => ?_⟩
        have := h6 j u hu
        rw [List.getElem?_append_left (List.getElem?_eq_some_iff.1 this).1]; exact this
    · rw [hA] at hA'
      injection hA' with hA'
      injection hA' with e1 e2 _
      subst e1 e2
      by_cases e : j < flat.length
      · rw [List.getElem?_append_left e] at hu
        exact h4 g o hA j u hu
      · rw [List.getElem?_append_right (by omega)] at hu
        have := hc _ _ hu
        rwa [show o + n * k + (j - flat.length) = o + j by rw [h1] at e ⊢; omega] at this
variable {T : TypeId} {X : Nat → Prop} {w : World} {B : Nat} {A : Option Addr} {cp : Nat} {acc : List α}
theorem RowX.slX (h : RowX It T k X w B A cp acc) (hmono : ∀ {c c' : Cl}, c.le c' → ∀ {a cs}, It c a cs → It c' a cs) (hA : ∀ ad, A = some ad → ¬ X ad.block) : ∃ R : Nat → Prop, (∀ b, R b → b < w.heap.size ∧ ¬ X b) ∧ SlX It k (w.on R) A acc := by
  refine ⟨fun b => b < w.heap.size ∧ ¬ X b, fun b hb => hb, fun i a hi => ?_⟩
  obtain ⟨R, g, cs, rfl, _, hR, hit, hc⟩ := h.items hi
  refine ⟨g, 0, cs, rfl, hmono (on_sub fun b hb => ⟨(hR b hb).1, (hR b hb).2.1⟩) hit, fun j u hu => ?_⟩
  have h1 := hc j u hu
  rw [Nat.zero_add]
  exact on_some.2 ⟨⟨World.block_lt_of_cell? _ _ h1, hA ⟨g, 0, none⟩ rfl⟩, h1⟩
/-- A cell of an item is written, maybe behind what wrote nothing that was there. -/
theorem RowX.setI (hmono : ∀ {c c' : Cl}, c.le c' → ∀ {a cs}, It c a cs → It c' a cs) (hlen : ∀ c a cs, It c a cs → cs.length = k) (h : RowX It T k X w B A cp acc) {i : Nat} {x : α} (hi : acc[i]? = some x) :
    ∃ (R : Nat → Prop) (g : Nat) (cs : List Value), A = some ⟨g, 0, none⟩ ∧ B ≤ g ∧ g < w.heap.size ∧ (∀ b, R b → b < w.heap.size ∧ ¬ X b ∧ b ≠ g) ∧ It (w.on R) x cs ∧ (∀ (q : Nat) z, cs[q]? = some z → w.cell? ⟨g, i * k + q, none⟩ = some z) ∧ (∀ j, w.frozen? ⟨g, i * k + j, none⟩ = false) ∧
      ∀ (w2 : World) (j : Nat) (u : Value) (x' : α) (Rn : Nat → Prop), Below w.heap.size w w2 → j < k → u.oneCell' = true → It (w2.on Rn) x' (cs.set j u) → (∀ b, Rn b → b < w2.heap.size ∧ ¬ X b ∧ b ≠ g) → RowX It T k X (w2.setCell ⟨g, i * k + j, none⟩ u) B A cp (acc.set i x') := by
  have hle := h.le
  obtain ⟨R, flat, hR, hown, h1, hel⟩ := h
  have hil := (List.getElem?_eq_some_iff.1 hi).1
  obtain ⟨cs, h2, h3⟩ := hel i x hi
  have hcl : cs.length = k := hlen _ _ _ h2
  obtain ⟨g, rfl⟩ : ∃ g, A = some ⟨g, 0, none⟩ := by
    cases hA : A with
    | none => subst hA; have hb := (own_le hown).2.2.1 rfl; omega
    | some ad => subst hA; obtain ⟨g, rfl, _⟩ := (own_le hown).2.2.2 ad rfl; exact ⟨g, rfl⟩
  obtain ⟨g', hg', hbg, hgl⟩ := hle.2.2 _ rfl
  obtain rfl : g = g' := by injection hg'
  refine ⟨R, g, cs, rfl, hbg, hgl, fun b hb => ⟨(hR b hb).1, (hR b hb).2.1, (hR b hb).2.2 _ rfl⟩, h2, fun q z hz => own_cell hown (i * k + q) _ (h3 q z hz), fun j => World.ownsRow.frozenAt hown _, ?_⟩
  intro w2 j u x' Rn hb hj hu hit hRn
  have hko : ∀ b, b < w.heap.size → b ≠ g → (w2.setCell ⟨g, i * k + j, none⟩ u).heap[b]? = w.heap[b]? := fun b hb2 hne => (Below.heap_setCell w2 ⟨g, i * k + j, none⟩ _ b hne).trans (hb.block b hb2)
  have hown2 : w2.ownsRow B T k (.slice (some ⟨g, 0, none⟩) acc.length cp) acc.length flat := own_keep hown (fun b _ h3 => hb.block b h3)
  refine ⟨fun b => R b ∨ Rn b, flat.set (i * k + j) u, fun b hb2 => ?_, ?_, ?_, ?_⟩
  · rcases hb2 with hb2 | hb2
    · exact ⟨by have := (hR b hb2).1; have := hb.size; simp [World.setCell]; omega, (hR b hb2).2.1, (hR b hb2).2.2⟩
    · refine ⟨by simpa [World.setCell] using (hRn b hb2).1, (hRn b hb2).2.1, fun ad e => ?_⟩
      injection e with e; subst e
      exact (hRn b hb2).2.2
  · rw [List.length_set]; exact own_set hown2 _ _
  · intro z hz
    rcases List.mem_or_eq_of_mem_set hz with q | q
    · exact h1 z q
    · subst q; exact hu
  · have hleR : Cl.le (w.on R) ((w2.setCell ⟨g, i * k + j, none⟩ u).on fun b => R b ∨ Rn b) := on_keep (fun b hb _ => .inl hb) (fun b hb h3 => hko b h3 ((hR b hb).2.2 _ rfl))
    have hleN : Cl.le (w2.on Rn) ((w2.setCell ⟨g, i * k + j, none⟩ u).on fun b => R b ∨ Rn b) := on_keep (fun b hb _ => .inr hb) (fun b hb _ => Below.heap_setCell w2 ⟨g, i * k + j, none⟩ _ b (hRn b hb).2.2)
    intro q a hq
    by_cases e : i = q
    · subst e
      rw [List.getElem?_set_self hil] at hq
      injection hq with hq
      subst hq
      refine ⟨cs.set j u, hmono hleN hit, fun p z hz => ?_⟩
      by_cases ep : j = p
      · subst ep
        rw [List.getElem?_set_self (by omega)] at hz
        have := h3 j _ (List.getElem?_eq_getElem (by omega))
        rw [List.getElem?_set_self (List.getElem?_eq_some_iff.1 this).1]; exact hz
      · rw [List.getElem?_set_ne ep] at hz
        rw [List.getElem?_set_ne (by omega)]; exact h3 p z hz
    · rw [List.getElem?_set_ne e] at hq
      obtain ⟨cs1, h4, h5⟩ := hel q a hq
      refine ⟨cs1, hmono hleR h4, fun p z hz => ?_⟩
      have hp : p < k := by have := (List.getElem?_eq_some_iff.1 hz).1; rw [hlen _ _ _ h4] at this; exact this
      have hne : i * k + j ≠ q * k + p := fun e2 => e (by
        have h6 : (i * k + j) / k = i := by rw [Nat.mul_comm, Nat.mul_add_div (by omega), Nat.div_eq_of_lt hj]; rfl
        have h7 : (q * k + p) / k = q := by rw [Nat.mul_comm, Nat.mul_add_div (by omega), Nat.div_eq_of_lt hp]; rfl
        rw [← h6, e2, h7])
      rw [List.getElem?_set_ne hne]
      exact h5 p z hz
end
theorem ItKey.len (c : Cl) (K : Cm.Key) (cs : List Value) (h : ItKey c K cs) : cs.length = 10 := by
  obtain ⟨j_1, j_2, j_3, j_4, j_5, j_6, j_7, j_8, j_9, j_a, j_b, j_c, A, cp, rfl, _⟩ := h.cells
  rfl
theorem ItKey.ones (c : Cl) (K : Cm.Key) (cs : List Value) (h : ItKey c K cs) : ∀ u ∈ cs, u.oneCell' = true := by
  obtain ⟨j_1, j_2, j_3, j_4, j_5, j_6, j_7, j_8, j_9, j_a, j_b, j_c, A, cp, rfl, _⟩ := h.cells
  simp [Value.oneCell']
theorem ItN.ones (c : Cl) (N : Cm.Node) (cs : List Value) (h : ItN c N cs) : ∀ u ∈ cs, u.oneCell' = true := by
  obtain ⟨A, cp, rfl, _⟩ := h
  simp [Value.oneCell']
/-- What is appended of such items. -/
theorem SlX.src {α : Type} {It : Cl → α → List Value → Prop} {k : Nat} {w : World} {R : Nat → Prop} {A : Option Addr} {l : List α} (hs : SlX It k (w.on R) A l) {flat : List Value} (hf : ∀ g o, A = some ⟨g, o, none⟩ → ∀ (j : Nat) u, flat[j]? = some u → (w.on R) ⟨g, o + j, none⟩ = some u) (hl : flat.length = l.length * k) : SrcX w A l.length flat := by
  have hA : 0 < l.length → ∃ g o, A = some ⟨g, o, none⟩ := fun h => by
    obtain ⟨g, o, _, hA, _⟩ := hs 0 _ (List.getElem?_eq_getElem h)
    exact ⟨g, o, hA⟩
  refine ⟨fun hn => ?_, fun ad ha j u hu => ?_⟩
  · rcases Nat.eq_zero_or_pos l.length with h | h
    · exact h
    · obtain ⟨g, o, h2⟩ := hA h; rw [hn] at h2; cases h2
  · have hj := (List.getElem?_eq_some_iff.1 hu).1
    have hpos : 0 < l.length := by
      rcases Nat.eq_zero_or_pos l.length with h | h
      · rw [h, Nat.zero_mul] at hl; omega
      · exact h
    obtain ⟨g, o, h2⟩ := hA hpos
    rw [ha] at h2
    injection h2 with h2
    subst h2
    rw [add_at']
    exact (on_some.1 (hf g o ha j u hu)).2

/-! A map that tells numbers by texts. -/
section
variable {P : Program} {K E T : TypeId} {w w' : World} {b n : Nat} {S : List UInt8 → Option Nat}
def PlcP (P : Program) (K E : TypeId) (w : World) (b n : Nat) (S : List UInt8 → Option Nat) : Prop :=
  ∃ D : DataW Unit, w.ownsMap P K (plainElem P E) b n D ∧ ∀ k, (∀ q, S k = some q → Maps.has D (.string k) = true ∧ D.atKey (.string k) (.lit (.int .i64 0)) = .lit (.int .i64 (q : Int))) ∧ (S k = none → Maps.has D (.string k) = false)
theorem PlcP.look (hK : P.underlying K = some .string) (hE : P.underlying E = some (.int .i64)) (hT : P.underlying T = some (.map K E)) (hz : (zeroValue E).run P w = .ok (.int .i64 0) w) (h : PlcP P K E w b n S) (k : List UInt8) (hk : k.length ≤ 10000000000000) :
    ∃ c : Int, (Instr.lookup T (.map (some b)) (.string ⟨k.toArray⟩) true).run P w = .ok (.tuple #[.int .i64 c, .bool (S k).isSome]) w ∧ ∀ q, S k = some q → c = (q : Int) := by
  obtain ⟨D, h1, h2⟩ := h
  have hkey : keyOf P K (.string ⟨k.toArray⟩) = some (.string k) := WideMaps.keyOf_string_mk hK (by show k.length ≤ maxLen; unfold maxLen; omega)
  obtain ⟨v, ps, hrun, hv⟩ := h1.look_ok (Maps.string_keyed hK) hT hz (plainElem_int hE (by decide)) hkey
  obtain ⟨c, rfl, hc, hwc⟩ := plainElem_int_inv hE hv
  refine ⟨c, ?_, fun q hq => ?_⟩
  · rw [hrun]
    cases hS : S k with
    | none => rw [(h2 k).2 hS]; rfl
    | some q => rw [((h2 k).1 q hS).1]; rfl
  · have h3 := ((h2 k).1 q hq).2
    have h4 := congrArg Prod.fst hc
    simp only at h4
    rw [h3] at h4
    injection h4 with h4
    injection h4 with _ h4
    exact h4.symm
theorem PlcP.put (hK : P.underlying K = some .string) (hE : P.underlying E = some (.int .i64)) (hT : P.underlying T = some (.map K E)) (h : PlcP P K E w b n S) (k : List UInt8) (hk : k.length ≤ 10000000000000) (hn : n ≤ 1000000000000) (q : Nat) (hq : q ≤ 1000000000000) :
    ∃ w', (Instr.mapUpdate T (.map (some b)) (.string ⟨k.toArray⟩) (.int .i64 (q : Int))).run P w = .ok () w' ∧ PlcP P K E w' b (n + 1) (fun k' => if k = k' then some q else S k') ∧ w.grownBy w' (some b) := by
  obtain ⟨D, h1, h2⟩ := h
  have hkey : keyOf P K (.string ⟨k.toArray⟩) = some (.string k) := WideMaps.keyOf_string_mk hK (by show k.length ≤ maxLen; unfold maxLen; omega)
  have hwf : (Lit.int .i64 (q : Int)).wf = true := by
    simp only [Lit.wf, Bool.and_eq_true, decide_eq_true_eq]
    have e1 : IntKind.min .i64 = -9223372036854775808 := by decide
    have e2 : IntKind.max .i64 = 9223372036854775807 := by decide
    rw [e1, e2]
    omega
  obtain ⟨w', hrun, r1, r2⟩ := h1.update (Maps.string_keyed hK) hT (by unfold maxLen; omega) hkey (plainElem_int hE hwf)
  refine ⟨w', hrun, ⟨_, r1, fun k' => ?_⟩, r2⟩
  show (∀ q', (if k = k' then some q else S k') = some q' → _ ∧ _) ∧ ((if k = k' then some q else S k') = none → _)
  by_cases e : k = k'
  · subst e
    rw [Maps.atKey_put_same h1.isMap ((Maps.string_keyed hK).key hkey), Maps.has_put_same h1.isMap ((Maps.string_keyed hK).key hkey), if_pos rfl]
    exact ⟨fun q' hq' => by injection hq' with hq'; subst hq'; exact ⟨rfl, rfl⟩, fun hq' => by cases hq'⟩
  · have hne : Lit.string k' ≠ Lit.string k := fun h => e (by injection h with h; exact h.symm)
    rw [Maps.atKey_put_other hne, Maps.has_put_other hne, if_neg e]
    exact h2 k'
end
/-- .. a map of the program. -/
def PlcAt (w : World) (b n : Nat) (S : List UInt8 → Option Nat) : Prop := PlcP Tryd.prog 9 3 w b n S
section
variable {w w' : World} {b n : Nat} {S S' : List UInt8 → Option Nat}
theorem PlcAt.new (w : World) : PlcAt (w.alloc (.map #[] 0)) w.heap.size 0 (fun _ => none) := ⟨_, World.ownsMap_made w _ _ _, fun k => ⟨(fun q hq => by cases hq), fun _ => rfl⟩⟩
theorem PlcAt.lt (h : PlcAt w b n S) : b < w.heap.size := by
  obtain ⟨D, h, _⟩ := h; exact h.lt
theorem PlcAt.far (h : PlcAt w b n S) (hb : w'.heap[b]? = w.heap[b]?) : PlcAt w' b n S := by
  obtain ⟨D, ⟨es, clock, h1, h2⟩, h3⟩ := h
  exact ⟨D, ⟨es, clock, hb.trans h1, h2⟩, h3⟩
theorem PlcAt.congr (h : PlcAt w b n S) (hS : ∀ k, S' k = S k) : PlcAt w b n S' := by
  obtain ⟨D, h1, h2⟩ := h
  exact ⟨D, h1, fun k => by rw [hS k]; exact h2 k⟩
set_option maxRecDepth 100000 in
theorem PlcAt.look (h : PlcAt w b n S) (k : List UInt8) (hk : k.length ≤ 10000000000000) :
    ∃ c : Int, (Instr.lookup 79 (.map (some b)) (.string ⟨k.toArray⟩) true).run Tryd.prog w = .ok (.tuple #[.int .i64 c, .bool (S k).isSome]) w ∧ ∀ q, S k = some q → c = (q : Int) :=
  PlcP.look Tryd.underlying9 Tryd.underlying3 Tryd.underlying79 (by kernel_rfl) h k hk
theorem PlcAt.put (h : PlcAt w b n S) (k : List UInt8) (hk : k.length ≤ 10000000000000) (hn : n ≤ 1000000000000) (q : Nat) (hq : q ≤ 1000000000000) :
    ∃ w', (Instr.mapUpdate 79 (.map (some b)) (.string ⟨k.toArray⟩) (.int .i64 (q : Int))).run Tryd.prog w = .ok () w' ∧ PlcAt w' b (n + 1) (fun k' => if k = k' then some q else S k') ∧ w.grownBy w' (some b) :=
  PlcP.put Tryd.underlying9 Tryd.underlying3 Tryd.underlying79 h k hk hn q hq
end
theorem run_makeMap_hint {P : Program} {t K E : TypeId} (ht : P.underlying t = some (.map K E)) (n : Int) (w : World) : (Instr.makeMap t (some (.int .i64 n))).run P w = .ok (.map (some w.heap.size)) (w.alloc (.map #[] 0)) := by
  simp [Instr.makeMap, run_underlying ht, asInt, asIntOf, Result.andThen]

/-! The program's small calls. -/
set_option linter.unusedVariables false in
set_option linter.unusedSimpArgs false in
set_option maxRecDepth 100000 in
set_option maxHeartbeats 2000000 in
theorem placesOf_any (l : List Cm.Node) (A : Option Addr) (cA : Nat) (w : World) (hs : SlN w.cell? A l) (h1 : l.length ≤ cA) (h2 : cA ≤ maxLen) (hl : l.length ≤ 1000000) (hp : ∀ N ∈ l, (text N.at_).length ≤ 10000000000000) :
    Calls Tryd.prog 26 #[.slice A l.length cA] w fun e w' => ∃ mb, e = .returned (.map (some mb)) ∧ PlcAt w' mb l.length (fun k => Cm.refAt l (35 :: k) l.length) ∧ w.heap.size ≤ mb ∧ Below w.heap.size w w' := by
  have HS := Lib.hid hs
  have HP := Lib.hid hp
  have HM0 := Lib.hid (PlcAt.new w)
  have HB0 := Lib.hid ((Below.refl w.heap.size w).alloc (Nat.le_refl _) (.map #[] 0))
  unfold maxLen at h2
  clear hs hp
  have hmk : ∀ W : World, (Instr.makeMap 79 (some (.int .i64 (l.length : Int)))).run Tryd.prog W = .ok (.map (some W.heap.size)) (W.alloc (.map #[] 0)) := fun W => run_makeMap_hint Tryd.underlying79 _ W
  go_enter Tryd.func26, Tryd.ntmps26
  go_upto_region 2 with (fail)
  generalize w.alloc (.map #[] 0) = w0 at *
  obtain ⟨mb, hmb⟩ : ∃ mb, w.heap.size = mb := ⟨_, rfl⟩
  have HMB := Lib.hid (show w.heap.size ≤ mb by omega)
  have HM1 := Lib.hid (show PlcAt w0 mb 0 (fun k => Cm.refAt l (35 :: k) 0) by rw [← hmb]; exact HM0.out)
  rw [hmb]
  clear hmb HM0 hmk
  go_wp2_with fail
  go_loopw [11] (fun i wr => ∃ j : Nat, j ≤ l.length ∧ i = .int .i64 j ∧ Below w.heap.size w wr ∧ PlcAt wr mb j (fun k => Cm.refAt l (35 :: k) j)) (fun i _ => l.length - (intOf i).toNat)
  case atStart => exact ⟨0, by omega, rfl, HB0.out, HM1.out⟩
  case round =>
    obtain ⟨j, hj, rfl, hb, hM⟩ := hrel
    have HB := Lib.hid hb
    have HM := Lib.hid hM
    clear hb hM
    by_cases hlt : j < l.length
    · obtain ⟨g, o, cs, rfl, ⟨A2, c2, rfl, _, _, _⟩, hcN⟩ := HS.out j _ (List.getElem?_eq_getElem hlt)
      have e0 := (le_below HB.out) _ _ (hcN 0 _ rfl)
      have e1 := (le_below HB.out) _ _ (hcN 1 _ rfl)
      have e2 := (le_below HB.out) _ _ (hcN 2 _ rfl)
      have e3 := (le_below HB.out) _ _ (hcN 3 _ rfl)
      have hgl := World.block_lt_of_cell? _ _ e0
      have HNX := Lib.hid (fun k => Cm.plc_next (k := k) (List.getElem?_eq_getElem hlt))
      have hpl := HP.out _ (List.getElem_mem hlt)
      have hjj : (j : Int) < (l.length : Int) := by omega
      simp only [Nat.add_zero] at e0
      clear hcN
      generalize l[j]'hlt = N at *
      obtain ⟨P, nall, npass, keys⟩ := N
      simp only at e0 e1 e2 e3 HNX hpl
      generalize text P = tx at *
      have hb1 := (Below.refl wr.heap.size wr).alloc (Nat.le_refl _) (.cells #[.string ⟨tx.toArray⟩, .bool nall, .bool npass, .slice A2 keys.length c2] 45)
      have HB1 := Lib.hid (HB.out.trans (hb1.mono HB.out.size))
      have HM1 := Lib.hid (HM.out.far (hb1.block _ HM.out.lt))
      have HK1 := Lib.hid (Blk.new wr 45 #[.string ⟨tx.toArray⟩, .bool nall, .bool npass, .slice A2 keys.length c2])
      clear hb1
      go_upto_region 5 with (fail)
      generalize wr.alloc (.cells #[.string ⟨tx.toArray⟩, .bool nall, .bool npass, .slice A2 keys.length c2] 45) = w1 at *
      generalize wr.heap.size = g1 at *
      clear e0 e1 e2 e3 hgl
      have a0 := HK1.out.cell 0
      have hkl := HK1.out.lt
      obtain ⟨w4, hput, hM4, hg4⟩ := HM1.out.put tx hpl (by omega) j (by omega)
      have HM4 := Lib.hid (hM4.congr HNX.out)
      have HB4 := Lib.hid (HB1.out.grown hg4 HB1.out.size (fun q hq => by injection hq with hq; have := HMB.out; omega))
      clear hM4 hg4
      go_wp2_with fail
      go_roundw
      case rel => exact ⟨j + 1, by omega, by go_num, HB4.out, HM4.out⟩
      case measure => simp [intOf]; omega
    · obtain rfl : j = l.length := by omega
      go_wp2_with fail
      go_ret
      exact ⟨mb, rfl, HM.out, HMB.out, HB.out⟩

theorem infoNode12 : ∃ i, Tryd.prog.info? 45 = some i ∧ i.zero = some (.agg #[.string ⟨#[]⟩, .bool false, .bool false, .slice none 0 0]) ∧ i.size = 4 ∧ i.bytes = 48 := info_of12 (by kernel_rfl)
theorem infoKey12 : ∃ i, Tryd.prog.info? 48 = some i ∧ i.zero = some (.agg #[.string ⟨#[]⟩, .int .i64 0, .bool false, .bool false, .string ⟨#[]⟩, .int .i64 0, .string ⟨#[]⟩, .slice none 0 0, .slice none 0 0, .slice none 0 0]) ∧ i.size = 10 ∧ i.bytes = 152 := info_of12 (by kernel_rfl)
/-- What a clone is: a row of its own. -/
theorem row_cloned {α : Type} {It : Cl → α → List Value → Prop} (hmono : ∀ {c c' : Cl}, c.le c' → ∀ {a cs}, It c a cs → It c' a cs) {T : TypeId} {k : Nat} {w w' : World} {R X : Nat → Prop} (hR : ∀ b, R b → b < w.heap.size) (hX : ∀ b, R b → ¬ X b) (hb : Below w.heap.size w w') {A' : Option Addr} {c' : Nat} {l : List α} {flat : List Value} (hown : w'.ownsRow w.heap.size T k (.slice A' l.length c') l.length flat) (h1 : ∀ u ∈ flat, u.oneCell' = true) (hel : ∀ i a, i < l.length → l[i]? = some a → ∃ cs, It (w.on R) a cs ∧ ∀ (j : Nat) u, cs[j]? = some u → flat[i * k + j]? = some u) : RowX It T k X w' w.heap.size A' c' l := by
  refine ⟨R, flat, fun b hb2 => ⟨Nat.lt_of_lt_of_le (hR b hb2) hb.size, hX b hb2, fun ad e q => ?_⟩, hown, h1, fun i a hi => ?_⟩
  · obtain ⟨g, rfl, hg, _⟩ := (own_le hown).2.2.2 ad e
    have := hR b hb2
    simp only at q; omega
  · obtain ⟨cs, h2, h3⟩ := hel i a (List.getElem?_eq_some_iff.1 hi).1 hi
    exact ⟨cs, hmono (on_keep (fun b h _ => h) (fun b _ h2 => hb.block b h2)) h2, h3⟩

set_option linter.unusedVariables false in
set_option linter.unusedSimpArgs false in
set_option maxRecDepth 100000 in
set_option maxHeartbeats 2000000 in
theorem cloneN_any (l : List Cm.Node) (R X : Nat → Prop) (A : Option Addr) (cA : Nat) (w : World) (hs : SlX ItN 4 (w.on R) A l) (h1 : l.length ≤ cA) (h2 : cA ≤ maxLen) (hl : l.length ≤ 1000000) (hR : ∀ b, R b → b < w.heap.size) (hX : ∀ b, R b → ¬ X b) :
    Calls Tryd.prog 27 #[.slice A l.length cA] w fun e w' => ∃ (A' : Option Addr) (c' : Nat), e = .returned (.slice A' l.length c') ∧ RowX ItN 45 4 X w' w.heap.size A' c' l ∧ Below w.heap.size w w' := by
  obtain ⟨flat, hfl, hf1, hel, hsrc⟩ := SlX.flat (fun c a cs h => ItN.len h) ItN.ones hs l.length (Nat.le_refl _)
  unfold maxLen at h2
  cases A with
  | none =>
    obtain rfl : l = [] := by
      cases l with
      | nil => rfl
      | cons x r => obtain ⟨g, o, cs, h, _⟩ := hs 0 x rfl; cases h
    have heq : ∀ W, (binOp .eql 31 (.slice none 0 cA) (.slice none 0 0)).run Tryd.prog W = .ok (.bool true) W := fun W => Lib.run_eql_slice_nil W 31 _ none 0 cA 0 0 Tryd.underlying31
    clear hel hsrc hfl hf1 hs
    go_enter Tryd.func27, Tryd.ntmps27
    go_wp2_with fail
    go_ret
    exact ⟨none, 0, rfl, RowX.nil _ _, Below.refl _ _⟩
  | some ad =>
    have HSRC := Lib.hid ((SlX.src hs hsrc hfl).keep ((Below.refl w.heap.size w).alloc (Nat.le_refl _) (.cells #[] 45)))
    have HOWN := Lib.hid (World.ownsRow_made (size := 4) (e := 45) (base := w.heap.size) w #[] 0 (Nat.le_refl _) (by omega) rfl)
    have HB1 := Lib.hid ((Below.refl w.heap.size w).alloc (Nat.le_refl _) (.cells #[] 45))
    have HEL := Lib.hid hel
    have HR := Lib.hid hR
    have HX := Lib.hid hX
    have heq : ∀ W, (binOp .eql 31 (.slice (some ad) l.length cA) (.slice none 0 0)).run Tryd.prog W = .ok (.bool false) W := fun W => Lib.run_eql_slice_nil W 31 _ (some ad) l.length cA 0 0 Tryd.underlying31
    obtain ⟨i0, hi0, hz0, hz1, hz2⟩ := infoNode12
    clear hs hsrc hel hR hX
    go_enter Tryd.func27, Tryd.ntmps27
    go_wp2_with (at_builtin; refine wpList_append_srcx _ rfl _ _ _ rfl w.heap.size 45 i0 _ 4 48 Tryd.underlying31 hi0 hz0 hz1 hz2 rfl (by omega) (.slice (some ⟨w.heap.size, 0, none⟩) 0 0) 0 [] rfl HOWN.out (some ad) l.length cA flat rfl hfl HSRC.out hf1 (by unfold maxLen; omega) (by omega) (by simp) l.length (by omega) ?_; intro A' c' w2 hown hgr; have HOWN2 := Lib.hid hown; have HGR := Lib.hid hgr; clear hown hgr)
    go_ret
    have hb2 := HB1.out.grown HGR.out HB1.out.size (fun q hq => by
      have hq2 : q = w.heap.size := (by simpa [Value.ownBlock] using hq.symm)
      exact Nat.le_of_eq hq2.symm)
    exact ⟨A', c', rfl, row_cloned (It := ItN) (fun h => ItN.mono h) HR.out HX.out hb2 HOWN2.out hf1 HEL.out, hb2⟩

set_option linter.unusedVariables false in
set_option linter.unusedSimpArgs false in
set_option maxRecDepth 100000 in
set_option maxHeartbeats 2000000 in
theorem cloneK_any (l : List Cm.Key) (R X : Nat → Prop) (A : Option Addr) (cA : Nat) (w : World) (hs : SlX ItKey 10 (w.on R) A l) (h1 : l.length ≤ cA) (h2 : cA ≤ maxLen) (hl : l.length ≤ 1000000) (hR : ∀ b, R b → b < w.heap.size) (hX : ∀ b, R b → ¬ X b) :
    Calls Tryd.prog 44 #[.slice A l.length cA] w fun e w' => ∃ (A' : Option Addr) (c' : Nat), e = .returned (.slice A' l.length c') ∧ RowX ItKey 48 10 X w' w.heap.size A' c' l ∧ Below w.heap.size w w' := by
  obtain ⟨flat, hfl, hf1, hel, hsrc⟩ := SlX.flat ItKey.len ItKey.ones hs l.length (Nat.le_refl _)
  unfold maxLen at h2
  cases A with
  | none =>
    obtain rfl : l = [] := by
      cases l with
      | nil => rfl
      | cons x r => obtain ⟨g, o, cs, h, _⟩ := hs 0 x rfl; cases h
    have heq : ∀ W, (binOp .eql 43 (.slice none 0 cA) (.slice none 0 0)).run Tryd.prog W = .ok (.bool true) W := fun W => Lib.run_eql_slice_nil W 43 _ none 0 cA 0 0 Tryd.underlying43
    clear hel hsrc hfl hf1 hs
    go_enter Tryd.func44, Tryd.ntmps44
    go_wp2_with fail
    go_ret
    exact ⟨none, 0, rfl, RowX.nil _ _, Below.refl _ _⟩
  | some ad =>
    have HSRC := Lib.hid ((SlX.src hs hsrc hfl).keep ((Below.refl w.heap.size w).alloc (Nat.le_refl _) (.cells #[] 48)))
    have HOWN := Lib.hid (World.ownsRow_made (size := 10) (e := 48) (base := w.heap.size) w #[] 0 (Nat.le_refl _) (by omega) rfl)
    have HB1 := Lib.hid ((Below.refl w.heap.size w).alloc (Nat.le_refl _) (.cells #[] 48))
    have HEL := Lib.hid hel
    have HR := Lib.hid hR
    have HX := Lib.hid hX
    have heq : ∀ W, (binOp .eql 43 (.slice (some ad) l.length cA) (.slice none 0 0)).run Tryd.prog W = .ok (.bool false) W := fun W => Lib.run_eql_slice_nil W 43 _ (some ad) l.length cA 0 0 Tryd.underlying43
    obtain ⟨i0, hi0, hz0, hz1, hz2⟩ := infoKey12
    clear hs hsrc hel hR hX
    go_enter Tryd.func44, Tryd.ntmps44
    go_wp2_with (at_builtin; refine wpList_append_srcx _ rfl _ _ _ rfl w.heap.size 48 i0 _ 10 152 Tryd.underlying43 hi0 hz0 hz1 hz2 rfl (by omega) (.slice (some ⟨w.heap.size, 0, none⟩) 0 0) 0 [] rfl HOWN.out (some ad) l.length cA flat rfl hfl HSRC.out hf1 (by unfold maxLen; omega) (by omega) (by simp) l.length (by omega) ?_; intro A' c' w2 hown hgr; have HOWN2 := Lib.hid hown; have HGR := Lib.hid hgr; clear hown hgr)
    go_ret
    have hb2 := HB1.out.grown HGR.out HB1.out.size (fun q hq => by
      have hq2 : q = w.heap.size := (by simpa [Value.ownBlock] using hq.symm)
      exact Nat.le_of_eq hq2.symm)
    exact ⟨A', c', rfl, row_cloned (It := ItKey) (fun h => ItKey.mono h) HR.out HX.out hb2 HOWN2.out hf1 HEL.out, hb2⟩

/-- A reference's mark, cut off. -/
theorem cutMark_any (s : List UInt8) (w : World) : Calls Tryd.prog 45 #[.string ⟨s.toArray⟩, .string ⟨#[35]⟩] w fun e w' => ((∃ k, s = 35 :: k ∧ e = .returned (.tuple #[.string ⟨k.toArray⟩, .bool true])) ∨ ((∀ k, ¬ s = 35 :: k) ∧ e = .returned (.tuple #[.string ⟨s.toArray⟩, .bool false]))) ∧ w' = w := by
  refine (Tryd.strings_CutPrefix ⟨s.toArray⟩ ⟨#[35]⟩ w).mono ?_
  rintro e w' ⟨rfl, rfl⟩
  refine ⟨?_, rfl⟩
  cases s with
  | nil => exact .inr ⟨(fun k h => by cases h), rfl⟩
  | cons c r =>
    by_cases h : c = 35
    · subst h
      exact .inl ⟨r, rfl, by simp [Lib.trimPrefix, Lib.hasPrefix, List.isPrefixOf]⟩
    · refine .inr ⟨(fun k e => h (by injection e)), ?_⟩
      have h' : ((35 : UInt8) == c) = false := by rw [beq_eq_false_iff_ne]; exact fun e => h e.symm
      simp [Lib.trimPrefix, Lib.hasPrefix, List.isPrefixOf, h']

end Go.Proofs.YticpgjhckjhfeaaDoor

