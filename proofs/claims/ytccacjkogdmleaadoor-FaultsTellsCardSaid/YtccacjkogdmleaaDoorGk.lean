/- What the cards of layer 13 (faults) lean on: a slice of faults among the arguments. -/
import Derived.Test.YtccacjkogdmleaaDoorGd
import Derived.ProofKit
import Derived.OpenShut
import Derived.SliceStrings
import Derived.ChangeSame
import Derived.SizedLaws
namespace Go.Proofs.YtccacjkogdmleaaDoor
open Go.ChangeShapes Go.WideShapes Go.ChangeAt Go.RowKit

theorem list_of {α : Type} : ∀ (n : Nat) (P : Nat → α → Prop), (∀ i, i < n → ∃ x, P i x) → ∃ l : List α, l.length = n ∧ ∀ (i : Nat) x, l[i]? = some x → P i x
  | 0, _, _ => ⟨[], rfl, fun i x h => by simp at h⟩
  | n + 1, P, h => by
    obtain ⟨l, h1, h2⟩ := list_of n P (fun i hi => h i (by omega))
    obtain ⟨x, hx⟩ := h n (by omega)
    refine ⟨l ++ [x], by simp [h1], fun i y hy => ?_⟩
    by_cases e : i < l.length
    · rw [List.getElem?_append_left e] at hy
      exact h2 i y hy
    · have hl := (List.getElem?_eq_some_iff.1 hy).1
      simp at hl
      obtain rfl : i = n := by omega
      rw [List.getElem?_append_right (by omega), h1, Nat.sub_self] at hy
      simp at hy
      subst hy
      exact hx
theorem cells_three {w : World} {base : Nat} {a : Addr} {cs : List Value} (h : w.cells? base a 3 = some cs) : ∃ u0 u1 u2, cs = [u0, u1, u2] ∧ w.cell? (a.add 0) = some u0 ∧ w.cell? (a.add 1) = some u1 ∧ w.cell? (a.add 2) = some u2 := by
  unfold World.cells? at h
  split at h
  · simp only [List.range_succ, List.range_zero, List.nil_append, List.cons_append, List.mapM_cons, List.mapM_nil] at h
    cases h0 : w.cell? (a.add 0) with
    | none => simp [h0] at h
    | some u0 =>
      cases h1 : w.cell? (a.add 1) with
      | none => simp [h0, h1] at h
      | some u1 =>
        cases h2 : w.cell? (a.add 2) with
        | none => simp [h0, h1, h2] at h
        | some u2 =>
          simp [h0, h1, h2] at h
          exact ⟨u0, u1, u2, h.symm, rfl, rfl, rfl⟩
  · cases h
theorem weights_mem_all {H : Type} {P : Program} {e : TypeId} : ∀ {ds : List (DataW H)} {d : DataW H}, d ∈ ds → ∀ n ∈ d.weights P e, n ∈ DataW.weightsAll P e ds
  | [], _, h, _, _ => by cases h
  | x :: r, d, h, n, hn => by
    rw [DataW.weightsAll, List.mem_append]
    rcases List.mem_cons.1 h with rfl | h
    · exact .inl hn
    · exact .inr (weights_mem_all h n hn)
theorem cellsFault : Tryd.prog.cellsOf 28 = 3 := by kernel_rfl
theorem cellsStr13 : Tryd.prog.cellsOf 9 = 1 := by kernel_rfl
set_option maxRecDepth 100000 in
theorem faultStruct : ∃ f0 f1 f2 : Field, Tryd.prog.underlying 28 = some (.struct #[f0, f1, f2]) ∧ (f0.type = 9 ∧ f0.offset = 0) ∧ (f1.type = 9 ∧ f1.offset = 1) ∧ (f2.type = 9 ∧ f2.offset = 2) := by
  have h : (Tryd.prog.underlying 28).map (fun d => match d with | .struct fs => fs.toList.map (fun f => (f.type, f.offset)) | _ => []) = some [(9, 0), (9, 1), (9, 2)] := by kernel_rfl
  cases hq : Tryd.prog.underlying 28 with
  | none => rw [hq] at h; cases h
  | some d =>
    rw [hq] at h
    simp only [Option.map_some, Option.some.injEq] at h
    cases d with
    | struct fs =>
      obtain ⟨fl⟩ := fs
      simp only at h
      match fl, h with
      | [f0, f1, f2], h =>
        simp only [List.map_cons, List.map_nil, List.cons.injEq, Prod.mk.injEq, and_true] at h
        exact ⟨f0, f1, f2, rfl, h.1, h.2.1, h.2.2⟩
    | _ => simp at h
set_option maxRecDepth 100000 in
/-- A slice of faults that came in. -/
theorem open_faults {H : Type} {enc : TypeId × Value → H} {W : World} {base : Nat} {v : Value} {d : DataW H} {p : List MemPlace} (hok : Value.okWide Tryd.prog W .any base 22 v)
    (h : DataW.Trod enc Tryd.prog W 0 (fun _ => true) true 22 v d p) (hs : ∀ n ∈ d.weights Tryd.prog 22, n ≤ reachBytes) :
    ∃ (A : Option Addr) (l : List Fl.F) (e : Nat), v = .slice A l.length e ∧ FAt W A l e ∧ ∀ f ∈ l, f.inst.length ≤ 2000000000000000000 := by
  obtain ⟨a0, len, cap, rfl⟩ := okWide_slice Tryd.underlying22 hok
  obtain ⟨fuel, hf⟩ := h
  obtain ⟨f0, f1, f2, hst, ⟨t0, o0⟩, ⟨t1, o1⟩, t2, o2⟩ := faultStruct
  rcases DataW.trod_slice Tryd.underlying22 hf with ⟨hcs, _⟩ | ⟨a, len', cap', elems, rest, n, _, hcs, hx, _, hl, hm, hlen, hel, _⟩
  · simp [Value.cells] at hcs
    obtain ⟨rfl, rfl, rfl⟩ := hcs
    exact ⟨none, [], 0, rfl, ⟨fun i n h => by simp at h, Nat.le_refl _, Nat.zero_le _, fun _ => rfl⟩, fun f h => by cases h⟩
  · simp [Value.cells] at hcs
    obtain ⟨rfl, rfl, rfl⟩ := hcs
    have hd : d = .slice (elems.map (·.1)) (rest.map (·.1)) := (Prod.mk.inj hx).1
    have each : ∀ i, i < len → ∃ f : Fl.F, (W.cell? ((a.add (i * 3)).add 0) = some (.string ⟨f.inst.toArray⟩) ∧ W.cell? ((a.add (i * 3)).add 1) = some (.string ⟨f.sch.toArray⟩) ∧ W.cell? ((a.add (i * 3)).add 2) = some (.string ⟨f.kw.toArray⟩)) ∧ f.inst.length ≤ reachBytes := by
      intro i hi
      have hE := hel i hi
      rw [cellsFault] at hE
      cases hy : elems[i]? with
      | none => rw [List.getElem?_eq_none_iff] at hy; omega
      | some y =>
        rw [hy] at hE
        obtain ⟨cs, hc, hy1⟩ := Option.bind_eq_some_iff.1 hE
        obtain ⟨u0, u1, u2, rfl, k0, k1, k2⟩ := cells_three hc
        obtain ⟨xs, n', _, hyx, _, hxl, hxf⟩ := DataW.trod_struct hst hy1
        match xs, hxl with
        | [z0, z1, z2], _ =>
          have g0 := hxf 0 f0 rfl
          have g1 := hxf 1 f1 rfl
          have g2 := hxf 2 f2 rfl
          rw [t0, o0, cellsStr13] at g0
          rw [t1, o1, cellsStr13] at g1
          rw [t2, o2, cellsStr13] at g2
          obtain ⟨s0, q0, hz0, _⟩ := DataW.trod_string Tryd.underlying9 g0
          obtain ⟨s1, q1, _, _⟩ := DataW.trod_string Tryd.underlying9 g1
          obtain ⟨s2, q2, _, _⟩ := DataW.trod_string Tryd.underlying9 g2
          simp at q0 q1 q2
          refine ⟨⟨s0.data.toList, s1.data.toList, s2.data.toList⟩, ⟨by rw [k0, q0], by rw [k1, q1], by rw [k2, q2]⟩, ?_⟩
          refine hs _ ?_
          rw [hd, DataW.weights, Tryd.underlying22]
          refine List.mem_cons_of_mem _ (List.mem_append_left _ (weights_mem_all (d := y.1) (List.mem_map.2 ⟨y, List.mem_of_getElem? hy, rfl⟩) _ ?_))
          rw [hyx, DataW.weights, hst]
          refine DataW.weights_mem_each (j := 0) (t := 9) (d := z0.1) (by simp [t0]) (by simp) _ ?_
          rw [hz0]
          simp [DataW.weights]
    obtain ⟨l, hll, hle⟩ := list_of len _ each
    refine ⟨some a, l, cap, by rw [hll], ⟨fun i f hi => ?_, by omega, hm, fun h => by cases h⟩, fun f hf => ?_⟩
    · obtain ⟨⟨c0, c1, c2⟩, _⟩ := hle i f hi
      obtain ⟨g, o, spot⟩ := a
      have hspot : spot = none := by
        have h0 : 0 < l.length := by have := (List.getElem?_eq_some_iff.1 hi).1; omega
        have := (hle 0 _ (List.getElem?_eq_getElem h0)).1.1
        simpa [Addr.add] using World.cell?_spot this
      subst hspot
      rw [add_at13, add_at13] at c0 c1 c2
      exact ⟨g, o, rfl, c0, c1, c2⟩
    · obtain ⟨i, hi⟩ := List.getElem?_of_mem hf
      have := (hle i f hi).2
      have := reachBytes_lt
      omega

end Go.Proofs.YtccacjkogdmleaaDoor

