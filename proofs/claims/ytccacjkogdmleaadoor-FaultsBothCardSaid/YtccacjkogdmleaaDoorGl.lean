/- The program's compare; slices.SortFunc at faults (layer 13). (By gen_gl.py.) -/
import Derived.Test.YtccacjkogdmleaaDoorGd
import Derived.Test.YtccacjkogdmleaaDoorShelf
import Derived.Test.YtccacjkogdmleaaDoorShelfq
import Derived.Shelf.SlSortCmp.NoneTotal
import Derived.Lib.SlicesCompact
namespace Go.Proofs.YtccacjkogdmleaaDoor
open Go.RowKit Js Pt
open Go.Sort (SWO HoldsK PermIn SortedIn grow putRowK putRow mapBlock onCells ahead)

instance : Inhabited Fl.F := ⟨⟨[], [], []⟩⟩
/-- Which one of two is ahead, as a number. -/
def Fl.cf (a b : Fl.F) : Int := if Lib.compareBytes a.inst b.inst ≠ 0 then Lib.compareBytes a.inst b.inst else if Lib.compareBytes a.sch b.sch ≠ 0 then Lib.compareBytes a.sch b.sch else Lib.compareBytes a.kw b.kw
theorem Fl.same_iff (a b : List UInt8) : a = b ↔ Lib.compareBytes a b = 0 := ⟨fun h => by rw [h, Nm.bytes_self], Nm.bytes_zero a b⟩
theorem Fl.cf_lt (a b : Fl.F) : Fl.cf a b < 0 ↔ Fl.lt a b := by
  unfold Fl.cf Fl.lt
  have r1 := Nm.bytes_range a.inst b.inst
  have r2 := Nm.bytes_range a.sch b.sch
  have r3 := Nm.bytes_range a.kw b.kw
  rw [Fl.same_iff a.inst, Fl.same_iff a.sch]
  generalize Lib.compareBytes a.inst b.inst = x at *
  generalize Lib.compareBytes a.sch b.sch = y at *
  generalize Lib.compareBytes a.kw b.kw = z at *
  by_cases hx : x = 0
  · by_cases hy : y = 0
    · rw [if_neg (by omega), if_neg (by omega)]; omega
    · rw [if_neg (by omega), if_pos hy]; omega
  · rw [if_pos hx]; omega
theorem Fl.ltOf_iff (x y : Fl.F) : ltOf Fl.cf x y = true ↔ Fl.lt x y := by
  unfold ltOf
  rw [decide_eq_true_eq]
  exact Fl.cf_lt x y
theorem Fl.ltOf_not (x y : Fl.F) : ltOf Fl.cf x y = false ↔ ¬ Fl.lt x y := by rw [← Fl.ltOf_iff, Bool.not_eq_true]
theorem Fl.swo : SWO (ltOf Fl.cf) where
  irrefl x := (Fl.ltOf_not x x).2 (Fl.lt_no x)
  trans x y z h1 h2 := (Fl.ltOf_iff x z).2 (Fl.lt_trans ((Fl.ltOf_iff x y).1 h1) ((Fl.ltOf_iff y z).1 h2))
  ntrans x y z h1 h2 := by
    rw [Fl.ltOf_not] at *
    intro h
    rcases Fl.lt_tri y z with k | k | k
    · exact h2 k
    · subst k
      exact h1 h
    · exact h1 (Fl.lt_trans h k)
/-- Of what stands in order, each once: it rises, and has what was there. -/
theorem Fl.compact_is (d : Array Fl.F) (hs : ∀ i j, i < j → j < d.size → ¬ Fl.lt d[j]! d[i]!) : ∀ m, m ≤ d.size → Fl.Rises (Lib.compactUpTo d m) ∧ ∀ x, x ∈ Lib.compactUpTo d m ↔ ∃ j, j < m ∧ d[j]! = x
  | 0, _ => ⟨by simp [Lib.compactUpTo, Fl.Rises], by simp [Lib.compactUpTo]⟩
  | m + 1, hm => by
    obtain ⟨h1, h2⟩ := Fl.compact_is d hs m (by omega)
    rw [Lib.compactUpTo_succ]
    by_cases hk : Lib.keeps d m = true
    · rw [if_pos hk]
      have hk' : m = 0 ∨ d[m]! ≠ d[m - 1]! := by simpa [Lib.keeps] using hk
      refine ⟨List.pairwise_append.2 ⟨h1, by simp, fun x hx y hy => ?_⟩, fun x => ?_⟩
      · rw [List.mem_singleton] at hy
        subst hy
        obtain ⟨j, hj, rfl⟩ := (h2 x).1 hx
        have h3 := hs j m hj (by omega)
        rcases Fl.lt_tri d[j]! d[m]! with k | k | k
        · exact k
        · exfalso
          have hne := hk'.resolve_left (by omega)
          have h4 := hs (m - 1) m (by omega) (by omega)
          rcases Nat.lt_or_ge j (m - 1) with h | h
          · have h5 := hs j (m - 1) h (by omega)
            rw [k] at h5
            rcases Fl.lt_tri d[m - 1]! d[m]! with q | q | q
            · exact h5 q
            · exact hne q.symm
            · exact h4 q
          · obtain rfl : j = m - 1 := by omega
            exact hne k.symm
        · exact absurd k h3
      · rw [List.mem_append, h2, List.mem_singleton]
        constructor
        · rintro (⟨j, hj, e⟩ | e)
          · exact ⟨j, by omega, e⟩
          · exact ⟨m, by omega, e.symm⟩
        · rintro ⟨j, hj, e⟩
          by_cases h : j = m
          · subst h; exact .inr e.symm
          · exact .inl ⟨j, by omega, e⟩
    · rw [if_neg hk, List.append_nil]
      have hk' : 0 < m ∧ d[m]! = d[m - 1]! := by
        simp only [Lib.keeps, decide_eq_true_eq, not_or, ne_eq, Decidable.not_not] at hk
        exact ⟨by omega, hk.2⟩
      refine ⟨h1, fun x => ?_⟩
      rw [h2]
      constructor
      · rintro ⟨j, hj, e⟩; exact ⟨j, by omega, e⟩
      · rintro ⟨j, hj, e⟩
        by_cases h : j = m
        · subst h; exact ⟨j - 1, by omega, by rw [← hk'.2]; exact e⟩
        · exact ⟨j, by omega, e⟩
theorem Fl.compact_sort (d : List Fl.F) {l : List Fl.F} (hs : ∀ i j, i < j → j < d.length → ¬ Fl.lt d.toArray[j]! d.toArray[i]!) (hm : ∀ x, x ∈ d ↔ x ∈ l) : Lib.compactUpTo d.toArray d.length = Fl.sort l := by
  have h := Fl.compact_is d.toArray (by simpa using hs) d.length (by simp)
  refine (Fl.sort_is h.1 fun x => ?_).symm
  rw [h.2, ← hm]
  constructor
  · rintro ⟨j, hj, e⟩
    rw [getElem!_pos d.toArray j (by simpa using hj)] at e
    rw [← e]
    simp
  · intro hx
    obtain ⟨j, hj⟩ := List.getElem?_of_mem hx
    have hl := (List.getElem?_eq_some_iff.1 hj).1
    refine ⟨j, hl, ?_⟩
    rw [getElem!_pos d.toArray j (by simpa using hl)]
    simpa using (List.getElem?_eq_some_iff.1 hj).2

theorem three13 {W9 : World} {gx gy : Nat} {a1 a2 a3 b1 b2 b3 : Value} (hx : Blk W9 gx 28 #[a1, a2, a3]) (hy : Blk W9 gy 28 #[b1, b2, b3]) :
    (W9.cell? ⟨gx, 0, none⟩ = some a1 ∧ W9.cell? ⟨gx, 1, none⟩ = some a2 ∧ W9.cell? ⟨gx, 2, none⟩ = some a3 ∧ gx < W9.heap.size) ∧ W9.cell? ⟨gy, 0, none⟩ = some b1 ∧ W9.cell? ⟨gy, 1, none⟩ = some b2 ∧ W9.cell? ⟨gy, 2, none⟩ = some b3 ∧ gy < W9.heap.size :=
  ⟨⟨hx.cell 0, hx.cell 1, hx.cell 2, hx.lt⟩, hy.cell 0, hy.cell 1, hy.cell 2, hy.lt⟩

set_option linter.unusedVariables false in
set_option linter.unusedSimpArgs false in
set_option maxRecDepth 100000 in
set_option maxHeartbeats 2000000 in
theorem or13_any (a b c : Int) (g : Nat) (w : World) (h : Blk w g 3 #[.int .i64 a, .int .i64 b, .int .i64 c]) : Calls Tryd.prog 27 #[.slice (some ⟨g, 0, none⟩) 3 3] w fun e w' => e = .returned (.int .i64 (if a ≠ 0 then a else if b ≠ 0 then b else c)) ∧ w' = w := by
  have c0 := h.cell 0
  have c1 := h.cell 1
  have c2 := h.cell 2
  have hgl := h.lt
  clear h
  have e0 : w.cell? ⟨g, 0, none⟩ = some (.int .i64 a) := c0
  have e1 : w.cell? ⟨g, 1, none⟩ = some (.int .i64 b) := c1
  have e2 : w.cell? ⟨g, 2, none⟩ = some (.int .i64 c) := c2
  clear c0 c1 c2
  go_enter Tryd.func27, Tryd.ntmps27
  go_wp2_with fail
  go_loopw [8] (fun v8 wr => (v8 = .int .i64 0 ∨ (v8 = .int .i64 1 ∧ a = 0) ∨ (v8 = .int .i64 2 ∧ a = 0 ∧ b = 0) ∨ (v8 = .int .i64 3 ∧ a = 0 ∧ b = 0 ∧ c = 0)) ∧ w = wr) (fun v8 _ => 3 - (intOf v8).toNat)
  case atStart => exact ⟨.inl rfl, by first | rfl | trivial⟩
  case round =>
    obtain ⟨hs, rfl⟩ := hrel
    rcases hs with rfl | ⟨rfl, rfl⟩ | ⟨rfl, rfl, rfl⟩ | ⟨rfl, rfl, rfl, rfl⟩
    · by_cases ha : a = 0
      · subst ha
        go_wp2_with fail
        go_roundw
        case rel => exact ⟨.inr (.inl ⟨rfl, (by first | rfl | trivial)⟩), by first | rfl | trivial⟩
        case measure => simp [intOf]
      · go_wp2_with fail
        go_ret
        exact ⟨by simp [ha], rfl⟩
    · by_cases hb : b = 0
      · subst hb
        go_wp2_with fail
        go_roundw
        case rel => exact ⟨.inr (.inr (.inl ⟨rfl, (by first | rfl | trivial), (by first | rfl | trivial)⟩)), by first | rfl | trivial⟩
        case measure => simp [intOf]
      · go_wp2_with fail
        go_ret
        exact ⟨by simp [hb], rfl⟩
    · by_cases hc : c = 0
      · subst hc
        go_wp2_with fail
        go_roundw
        case rel => exact ⟨.inr (.inr (.inr ⟨rfl, (by first | rfl | trivial), (by first | rfl | trivial), (by first | rfl | trivial)⟩)), by first | rfl | trivial⟩
        case measure => simp [intOf]
      · go_wp2_with fail
        go_ret
        exact ⟨by simp [hc], rfl⟩
    · go_wp2_with fail
      go_ret
      exact ⟨by simp, rfl⟩

set_option linter.unusedVariables false in
set_option linter.unusedSimpArgs false in
set_option maxRecDepth 100000 in
set_option maxHeartbeats 2000000 in
theorem cmpF_any (x y : Fl.F) (W : World) : Calls Tryd.prog 18 #[.agg (fCells x).toArray, .agg (fCells y).toArray] W fun e w' => e = .returned (.int .i64 (Fl.cf x y)) ∧ ∃ q os', w' = grow (W.drewN q) os' := by
  obtain ⟨a1, a2, a3⟩ := x
  obtain ⟨b1, b2, b3⟩ := y
  have hc1 := fun (W' : World) => Tryd.strings_Compare ⟨a1.toArray⟩ ⟨b1.toArray⟩ W'
  have hc2 := fun (W' : World) => Tryd.strings_Compare ⟨a2.toArray⟩ ⟨b2.toArray⟩ W'
  have hc3 := fun (W' : World) => Tryd.strings_Compare ⟨a3.toArray⟩ ⟨b3.toArray⟩ W'
  unfold fCells Fl.cf
  simp only at hc1 hc2 hc3 ⊢
  generalize Lib.compareBytes a1 b1 = r1 at hc1 ⊢
  generalize Lib.compareBytes a2 b2 = r2 at hc2 ⊢
  generalize Lib.compareBytes a3 b3 = r3 at hc3 ⊢
  obtain ⟨R, hR⟩ : ∃ R, R = (if r1 ≠ 0 then r1 else if r2 ≠ 0 then r2 else r3) := ⟨_, rfl⟩
  have HOR := Lib.hid (fun (g : Nat) (w : World) (h : Blk w g 3 #[.int .i64 r1, .int .i64 r2, .int .i64 r3]) => hR ▸ or13_any r1 r2 r3 g w h)
  rw [← hR]
  clear hR
  have HC4 := Lib.hid hc1
  have HC9 := Lib.hid hc2
  have HC14 := Lib.hid hc3
  clear hc1 hc2 hc3
  have HBX := Blk.new W 28 #[.string ⟨a1.toArray⟩, .string ⟨a2.toArray⟩, .string ⟨a3.toArray⟩]
  have HBY := Blk.new2 W (.cells #[.string ⟨a1.toArray⟩, .string ⟨a2.toArray⟩, .string ⟨a3.toArray⟩] 28) 28 #[.string ⟨b1.toArray⟩, .string ⟨b2.toArray⟩, .string ⟨b3.toArray⟩]
  have HBX2 := HBX.alloc (.cells #[.string ⟨b1.toArray⟩, .string ⟨b2.toArray⟩, .string ⟨b3.toArray⟩] 28)
  go_enter Tryd.func18, Tryd.ntmps18
  go_upto_region 1 with (fail)
  have HC := Lib.hid (fun (W9 : World) (h : Below ((W.alloc (.cells #[.string ⟨a1.toArray⟩, .string ⟨a2.toArray⟩, .string ⟨a3.toArray⟩] 28)).alloc (.cells #[.string ⟨b1.toArray⟩, .string ⟨b2.toArray⟩, .string ⟨b3.toArray⟩] 28)).heap.size ((W.alloc (.cells #[.string ⟨a1.toArray⟩, .string ⟨a2.toArray⟩, .string ⟨a3.toArray⟩] 28)).alloc (.cells #[.string ⟨b1.toArray⟩, .string ⟨b2.toArray⟩, .string ⟨b3.toArray⟩] 28)) W9) => (three13 (HBX2.on h) (HBY.on h)))
  have hgw : (W.alloc (.cells #[.string ⟨a1.toArray⟩, .string ⟨a2.toArray⟩, .string ⟨a3.toArray⟩] 28)).alloc (.cells #[.string ⟨b1.toArray⟩, .string ⟨b2.toArray⟩, .string ⟨b3.toArray⟩] 28) = grow W #[.cells #[.string ⟨a1.toArray⟩, .string ⟨a2.toArray⟩, .string ⟨a3.toArray⟩] 28, .cells #[.string ⟨b1.toArray⟩, .string ⟨b2.toArray⟩, .string ⟨b3.toArray⟩] 28] := by rw [Sort.alloc_eq_grow, Sort.alloc_eq_grow, Sort.grow_grow]; rfl
  clear HBX HBY HBX2
  generalize (W.alloc (.cells #[.string ⟨a1.toArray⟩, .string ⟨a2.toArray⟩, .string ⟨a3.toArray⟩] 28)).alloc (.cells #[.string ⟨b1.toArray⟩, .string ⟨b2.toArray⟩, .string ⟨b3.toArray⟩] 28) = wz at *
  generalize W.heap.size + 1 = gy at *
  generalize W.heap.size = gx at *
  refine wp_region_held_drew (S := fun W9 => (∃ os, W9 = grow (W.drewN 1) os) ∧ Below wz.heap.size wz W9) (by kernel_rfl) ⟨⟨_, by rw [hgw]; rfl⟩, below_drewN (Below.refl _ _) 1⟩ (fun ht => ?_)
  clear hgw
  generalize wz.drew = w8 at *
  refine wpAnyH_take (i := 0) (oi := ⟨some _, _, _, _, _, _⟩) (v := (.pointer (some ⟨gx, 0, none⟩))) rfl (by kernel_rfl) (by kernel_rfl) (by kernel_rfl) (fun _ _ _ h => h) (Or.inl ⟨by rfl, ?_⟩) ht ?_
  · intro W9 hSw
    go_simp
  try simp only [Act.put, List.setIfInBounds_toArray, List.set_cons_zero, List.set_cons_succ]
  refine wpAnyH_take (i := 1) (oi := ⟨some _, _, _, _, _, _⟩) (v := (.string ⟨a1.toArray⟩)) rfl (by kernel_rfl) (by kernel_rfl) (by kernel_rfl) (fun _ _ _ h => h) (Or.inl ⟨by rfl, ?_⟩) ht ?_
  · intro W9 hSw
    obtain ⟨⟨x0, x1, x2, bx⟩, y0, y1, y2, bY⟩ := HC.out W9 hSw.2
    go_simp
  try simp only [Act.put, List.setIfInBounds_toArray, List.set_cons_zero, List.set_cons_succ]
  refine wpAnyH_take (i := 2) (oi := ⟨some _, _, _, _, _, _⟩) (v := (.pointer (some ⟨gy, 0, none⟩))) rfl (by kernel_rfl) (by kernel_rfl) (by kernel_rfl) (fun _ _ _ h => h) (Or.inl ⟨by rfl, ?_⟩) ht ?_
  · intro W9 hSw
    go_simp
  try simp only [Act.put, List.setIfInBounds_toArray, List.set_cons_zero, List.set_cons_succ]
  refine wpAnyH_take (i := 3) (oi := ⟨some _, _, _, _, _, _⟩) (v := (.string ⟨b1.toArray⟩)) rfl (by kernel_rfl) (by kernel_rfl) (by kernel_rfl) (fun _ _ _ h => h) (Or.inl ⟨by rfl, ?_⟩) ht ?_
  · intro W9 hSw
    obtain ⟨⟨x0, x1, x2, bx⟩, y0, y1, y2, bY⟩ := HC.out W9 hSw.2
    go_simp
  try simp only [Act.put, List.setIfInBounds_toArray, List.set_cons_zero, List.set_cons_succ]
  refine wpAnyH_take (i := 5) (oi := ⟨some _, _, _, _, _, _⟩) (v := (.pointer (some ⟨gx, 1, none⟩))) rfl (by kernel_rfl) (by kernel_rfl) (by kernel_rfl) (fun _ _ _ h => h) (Or.inl ⟨by rfl, ?_⟩) ht ?_
  · intro W9 hSw
    go_simp
  try simp only [Act.put, List.setIfInBounds_toArray, List.set_cons_zero, List.set_cons_succ]
  refine wpAnyH_take (i := 6) (oi := ⟨some _, _, _, _, _, _⟩) (v := (.string ⟨a2.toArray⟩)) rfl (by kernel_rfl) (by kernel_rfl) (by kernel_rfl) (fun _ _ _ h => h) (Or.inl ⟨by rfl, ?_⟩) ht ?_
  · intro W9 hSw
    obtain ⟨⟨x0, x1, x2, bx⟩, y0, y1, y2, bY⟩ := HC.out W9 hSw.2
    go_simp
  try simp only [Act.put, List.setIfInBounds_toArray, List.set_cons_zero, List.set_cons_succ]
  refine wpAnyH_take (i := 7) (oi := ⟨some _, _, _, _, _, _⟩) (v := (.pointer (some ⟨gy, 1, none⟩))) rfl (by kernel_rfl) (by kernel_rfl) (by kernel_rfl) (fun _ _ _ h => h) (Or.inl ⟨by rfl, ?_⟩) ht ?_
  · intro W9 hSw
    go_simp
  try simp only [Act.put, List.setIfInBounds_toArray, List.set_cons_zero, List.set_cons_succ]
  refine wpAnyH_take (i := 8) (oi := ⟨some _, _, _, _, _, _⟩) (v := (.string ⟨b2.toArray⟩)) rfl (by kernel_rfl) (by kernel_rfl) (by kernel_rfl) (fun _ _ _ h => h) (Or.inl ⟨by rfl, ?_⟩) ht ?_
  · intro W9 hSw
    obtain ⟨⟨x0, x1, x2, bx⟩, y0, y1, y2, bY⟩ := HC.out W9 hSw.2
    go_simp
  try simp only [Act.put, List.setIfInBounds_toArray, List.set_cons_zero, List.set_cons_succ]
  refine wpAnyH_take (i := 10) (oi := ⟨some _, _, _, _, _, _⟩) (v := (.pointer (some ⟨gx, 2, none⟩))) rfl (by kernel_rfl) (by kernel_rfl) (by kernel_rfl) (fun _ _ _ h => h) (Or.inl ⟨by rfl, ?_⟩) ht ?_
  · intro W9 hSw
    go_simp
  try simp only [Act.put, List.setIfInBounds_toArray, List.set_cons_zero, List.set_cons_succ]
  refine wpAnyH_take (i := 11) (oi := ⟨some _, _, _, _, _, _⟩) (v := (.string ⟨a3.toArray⟩)) rfl (by kernel_rfl) (by kernel_rfl) (by kernel_rfl) (fun _ _ _ h => h) (Or.inl ⟨by rfl, ?_⟩) ht ?_
  · intro W9 hSw
    obtain ⟨⟨x0, x1, x2, bx⟩, y0, y1, y2, bY⟩ := HC.out W9 hSw.2
    go_simp
  try simp only [Act.put, List.setIfInBounds_toArray, List.set_cons_zero, List.set_cons_succ]
  refine wpAnyH_take (i := 12) (oi := ⟨some _, _, _, _, _, _⟩) (v := (.pointer (some ⟨gy, 2, none⟩))) rfl (by kernel_rfl) (by kernel_rfl) (by kernel_rfl) (fun _ _ _ h => h) (Or.inl ⟨by rfl, ?_⟩) ht ?_
  · intro W9 hSw
    go_simp
  try simp only [Act.put, List.setIfInBounds_toArray, List.set_cons_zero, List.set_cons_succ]
  refine wpAnyH_take (i := 13) (oi := ⟨some _, _, _, _, _, _⟩) (v := (.string ⟨b3.toArray⟩)) rfl (by kernel_rfl) (by kernel_rfl) (by kernel_rfl) (fun _ _ _ h => h) (Or.inl ⟨by rfl, ?_⟩) ht ?_
  · intro W9 hSw
    obtain ⟨⟨x0, x1, x2, bx⟩, y0, y1, y2, bY⟩ := HC.out W9 hSw.2
    go_simp
  try simp only [Act.put, List.setIfInBounds_toArray, List.set_cons_zero, List.set_cons_succ]
  refine wpAnyH_ready (rs := [4]) (by kernel_rfl) (by simp) ?_
  refine AllReadyH.cons (o := ⟨some _, _, _, _, _, _⟩) rfl (fun K hK => ?_) (AllReadyH.nil)
  go_simp
  refine (HC4.out _).mono ?_
  rintro e4 w4 ⟨rfl, rfl⟩
  have hs := ht
  clear ht
  go_wp2_with fail
  refine hK.out _ _ hs (fun ht => ?_)
  clear hK K hs
  try simp only [Act.put, List.setIfInBounds_toArray, List.set_cons_zero, List.set_cons_succ]
  refine wpAnyH_ready (rs := [9]) (by kernel_rfl) (by simp) ?_
  refine AllReadyH.cons (o := ⟨some _, _, _, _, _, _⟩) rfl (fun K hK => ?_) (AllReadyH.nil)
  go_simp
  refine (HC9.out _).mono ?_
  rintro e9 w9 ⟨rfl, rfl⟩
  have hs := ht
  clear ht
  go_wp2_with fail
  refine hK.out _ _ hs (fun ht => ?_)
  clear hK K hs
  try simp only [Act.put, List.setIfInBounds_toArray, List.set_cons_zero, List.set_cons_succ]
  refine wpAnyH_ready (rs := [14]) (by kernel_rfl) (by simp) ?_
  refine AllReadyH.cons (o := ⟨some _, _, _, _, _, _⟩) rfl (fun K hK => ?_) (AllReadyH.nil)
  go_simp
  refine (HC14.out _).mono ?_
  rintro e14 w14 ⟨rfl, rfl⟩
  have hs := ht
  clear ht
  go_wp2_with fail
  refine hK.out _ _ hs (fun ht => ?_)
  clear hK K hs
  try simp only [Act.put, List.setIfInBounds_toArray, List.set_cons_zero, List.set_cons_succ]
  refine wpAnyH_ready (rs := [15]) (by kernel_rfl) (by simp) ?_
  refine AllReadyH.cons (o := ⟨some _, _, _, _, _, _⟩) rfl (fun K hK => ?_) (AllReadyH.nil)
  go_simp
  obtain ⟨os9, hos9⟩ := ht.1
  refine via10 (K := K) (fun W9 => ((∃ os, W9 = grow (W.drewN 1) os) ∧ Below wz.heap.size wz W9) ∧ ∃ gb, Blk W9 gb 3 #[.int .i64 r1, .int .i64 r2, .int .i64 r3] ∧ gb = _) ⟨⟨⟨_, by rw [hos9, Sort.alloc_eq_grow, Sort.grow_grow]⟩, ht.2.alloc ht.2.size _⟩, _, Blk.new _ _ _, rfl⟩ ?_
  rintro w15 ⟨hs, gb, hgb, rfl⟩
  have HGB := Lib.hid hgb
  clear hgb ht hos9
  refine hK.out _ _ hs (fun ht => ?_)
  clear hK K hs
  try simp only [Act.put, List.setIfInBounds_toArray, List.set_cons_zero, List.set_cons_succ]
  refine wpAnyH_ready (rs := [16]) (by kernel_rfl) (by simp) ?_
  refine AllReadyH.cons (o := ⟨some _, _, _, _, _, _⟩) rfl (fun K hK => ?_) (AllReadyH.nil)
  go_simp
  refine (HOR.out _ _ HGB.out).mono ?_
  rintro e16 w16 ⟨rfl, rfl⟩
  have hs := ht
  clear ht
  go_wp2_with fail
  refine hK.out _ _ hs (fun ht => ?_)
  clear hK K hs
  try simp only [Act.put, List.setIfInBounds_toArray, List.set_cons_zero, List.set_cons_succ]
  refine wpAnyH_take (i := 17) (oi := ⟨some _, _, _, _, _, _⟩) (v := (.int .i64 R)) rfl (by kernel_rfl) (by kernel_rfl) (by kernel_rfl) (fun _ _ _ h => h) (Or.inl ⟨by rfl, ?_⟩) ht ?_
  · intro W9 hSw
    go_simp
  try simp only [Act.put, List.setIfInBounds_toArray, List.set_cons_zero, List.set_cons_succ]
  refine wpAnyH_done (by kernel_rfl) ?_ _
  have hfin := ht.1
  clear ht
  go_wp2_with fail
  go_ret
  exact ⟨rfl, 1, hfin⟩

theorem own_holds13 {w : World} {B g n cp : Nat} {l : List Fl.F} (h : w.ownsRow B 28 3 (.slice (some ⟨g, 0, none⟩) n cp) n (fFlat l)) : HoldsK fCells 3 w g 0 l.toArray := by
  intro t ht
  rw [Sort.size_flatK, List.size_toArray] at ht
  refine ⟨?_, h.frozenAt _⟩
  rw [Sort.get_flatK _ _ _ _ (by simpa using ht), Nat.zero_add]
  have hq : t / 3 < l.length := by omega
  have e1 : l.toArray[t / 3]! = l[t / 3] := by rw [getElem!_pos l.toArray _ (by simpa using hq)]; simp
  rw [e1]
  have h9 : (fCells l[t / 3]).length = 3 := rfl
  have h6 : (fCells l[t / 3])[t % 3]? = some ((fCells l[t / 3])[t % 3]!) := by
    rw [getElem!_pos _ _ (by rw [h9]; omega)]
    exact List.getElem?_eq_getElem _
  have h7 := fFlat_at (List.getElem?_eq_getElem hq) (t % 3) _ h6
  rw [show t / 3 * 3 + t % 3 = t by omega] at h7
  exact own_cell h t _ h7
theorem holds_own13 {w : World} {B g cp : Nat} {d : List Fl.F} {cur : Array Value} (hH : HoldsK fCells 3 w g 0 d.toArray) (hc : w.heap[g]? = some (.cells cur 28 (0, 0))) (hs : cur.size = cp * 3) (hB : B ≤ g) (h1 : d.length ≤ cp) (h2 : cp ≤ maxLen) :
    w.ownsRow B 28 3 (.slice (some ⟨g, 0, none⟩) d.length cp) d.length (fFlat d) := by
  refine ⟨fFlat_length d, .inr ⟨g, cp, cur, rfl, hB, hc, h1, h2, hs, ?_⟩⟩
  apply List.ext_getElem?
  intro j
  by_cases hj : j < d.length * 3
  · rw [List.getElem?_take, if_pos hj]
    have hq : j / 3 < d.length := by omega
    have h9 : (fCells d[j / 3]).length = 3 := rfl
    have h8 := hH.cell (i := j / 3) (c := j % 3) (by simpa using hq) (by omega)
    have e1 : d.toArray[j / 3]! = d[j / 3] := by rw [getElem!_pos d.toArray _ (by simpa using hq)]; simp
    rw [e1, getElem!_pos _ _ (by rw [h9]; omega), show 0 + j / 3 * 3 + j % 3 = j by omega, cell_of_row w g j cur _ (0, 0) hc] at h8
    have h7 := fFlat_at (List.getElem?_eq_getElem hq) (j % 3) _ (List.getElem?_eq_getElem (by rw [h9]; omega))
    rw [show j / 3 * 3 + j % 3 = j by omega] at h7
    rw [h7, ← h8.1]
    simp
  · rw [List.getElem?_eq_none (by rw [List.length_take]; omega), List.getElem?_eq_none (by rw [fFlat_length]; omega)]
theorem grown_sorted13 {w : World} {g n : Nat} {os : Array Obj} (d : Array Fl.F) : w.grownBy (sortWorldK fCells 3 w g 0 n d os) (some g) := by
  unfold sortWorldK putRowK
  refine ⟨rfl, rfl, rfl, by simp, fun k hk hne => ?_⟩
  rw [Sort.heap_grow_old _ _ (by simpa using hk)]
  have : g ≠ k := fun e => hne (by rw [e])
  simp [putRow, mapBlock, Array.getElem?_modify, this]
theorem sorted_row13 {w : World} {g n : Nat} {os : Array Obj} {cur : Array Value} {e : TypeId} (d : Array Fl.F) (hc : w.heap[g]? = some (.cells cur e (0, 0))) : ∃ cur', (sortWorldK fCells 3 w g 0 n d os).heap[g]? = some (.cells cur' e (0, 0)) ∧ cur'.size = cur.size := by
  have hg : g < w.heap.size := (Array.getElem?_eq_some_iff.1 hc).1
  unfold sortWorldK putRowK
  rw [Sort.heap_grow_old _ _ (by simpa using hg)]
  refine ⟨Sort.putCells id 0 (Sort.flatK fCells 3 d) cur, ?_, by simp [Sort.putCells]⟩
  simp only [putRow, mapBlock, Array.getElem?_modify, if_true]
  rw [show (Sort.ahead w n).heap[g]? = some (.cells cur e (0, 0)) from hc]
  rfl
/-- In order, as slices.SortFunc leaves it. -/
def Fl.Ordered (d : List Fl.F) : Prop := ∀ i j, i < j → j < d.length → ¬ Fl.lt d.toArray[j]! d.toArray[i]!
set_option maxHeartbeats 2000000 in
theorem sortF_any {w : World} {B : Nat} {A : Option Addr} {cp : Nat} {l : List Fl.F} (hown : w.ownsRow B 28 3 (.slice A l.length cp) l.length (fFlat l)) (hl : l.length ≤ 1000000) :
    Calls Tryd.prog 17 #[.slice A l.length cp, .func (.func 18) #[] #[]] w fun e w' => e = .returned (.tuple #[]) ∧ Below B w w' ∧ ∃ d : List Fl.F, d.length = l.length ∧ (∀ x, x ∈ d ↔ x ∈ l) ∧ Fl.Ordered d ∧ w'.ownsRow B 28 3 (.slice A d.length cp) d.length (fFlat d) := by
  cases l with
  | nil =>
    refine (AnyF.slices_SortFunc_none Tryd.sortf A cp _ w).mono ?_
    rintro e w' ⟨rfl, rfl⟩
    exact ⟨rfl, .refl _ _, [], rfl, fun _ => Iff.rfl, fun i j _ h => absurd h (Nat.not_lt_zero _), hown⟩
  | cons p0 l0 =>
    generalize hll : p0 :: l0 = l at *
    have hpos : 0 < l.length := by rw [← hll]; simp
    clear hll
    have hle := own_le hown
    obtain ⟨g, rfl, hg1, hg2⟩ : ∃ g, A = some ⟨g, 0, none⟩ ∧ B ≤ g ∧ g < w.heap.size := by
      cases A with
      | none => have := (hle.2.2.1 rfl).1; omega
      | some ad => obtain ⟨g, rfl, h1, h2⟩ := hle.2.2.2 ad rfl; exact ⟨g, rfl, h1, h2⟩
    obtain ⟨cur, hcur, hcs⟩ : ∃ cur, w.heap[g]? = some (.cells cur 28 (0, 0)) ∧ cur.size = cp * 3 := by
      rcases hown.2 with ⟨h0, _⟩ | ⟨g', cap, cur, h1, h2, h3, _, _, h4, _⟩
      · cases h0
      · injection h1 with e1 e2 e3
        injection e1 with e1
        injection e1 with e1
        subst e1 e3
        exact ⟨cur, h3, h4⟩
    have hH := own_holds13 hown
    have hds : l.toArray.size = l.length := by simp
    have eg : ∀ args w, (callFunc 18 args).run Tryd.prog w = .ok (.enter 18 args) w := enters_of Tryd.func18 (by kernel_rfl) rfl
    have hcon := AnyQ.slices_SortFunc Tryd.sortf 3 (fun w => by kernel_rfl) (fun w => by kernel_rfl) fCells (fun _ => rfl) (fun x v hv => by simp [fCells] at hv; rcases hv with rfl | rfl | rfl <;> rfl) Fl.cf Fl.swo 18 #[] g 0 cp l.toArray w eg (fun _ _ _ _ x y => cmpF_any x y _) hH hg2 (by rw [hds]; omega)
    rw [hds] at hcon
    refine Calls.mono (show Calls Tryd.prog 17 _ _ _ from hcon) ?_
    rintro e w' ⟨rfl, d', n, os, hp, hs, rfl⟩
    have hgr := grown_sorted13 (w := w) (g := g) (n := n) (os := os) d'
    have hd's : d'.size = l.length := by rw [hp.1, hds]
    have hperm : d'.toList.Perm l := by
      have h7 := hp.2.2
      have e1 : d'.extract 0 l.length = d' := by rw [← hd's]; exact Array.extract_size
      have e2 : l.toArray.extract 0 l.length = l.toArray := by rw [← hds]; exact Array.extract_size
      rw [e1, e2] at h7
      exact h7
    have hH' : HoldsK fCells 3 (sortWorldK fCells 3 w g 0 n d' os) g 0 d' := holdsK_sortWorldK_c fCells 3 w g 0 _ d' n os hH hg2 (by rw [hd's, hds])
    obtain ⟨cur', hcur', hcs'⟩ := sorted_row13 (n := n) (os := os) d' hcur
    have hdl : d'.toList.length = l.length := by rw [Array.length_toList, hd's]
    refine ⟨rfl, (Below.refl B w).grown hgr (by omega) (fun k hk => by cases hk; exact hg1), d'.toList, hdl, fun x => hperm.mem_iff, fun i j hij hj => ?_, holds_own13 (by simpa using hH') hcur' (hcs'.trans hcs) hg1 (by rw [hdl]; exact hle.1) hle.2.1⟩
    have := hs i j (Nat.zero_le _) hij (by rw [hdl] at hj; simpa using hj)
    rw [Fl.ltOf_not] at this
    simpa using this

end Go.Proofs.YtccacjkogdmleaaDoor

