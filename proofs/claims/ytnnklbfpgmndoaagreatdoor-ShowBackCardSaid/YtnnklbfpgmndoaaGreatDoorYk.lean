/- The program's parse: members are sorted. -/
import Derived.Test.YtnnklbfpgmndoaaGreatDoorYj
import Derived.Test.YtnnklbfpgmndoaaGreatDoorShelf
import Derived.Test.YtnnklbfpgmndoaaGreatDoorShelfs
import Derived.Shelf.SlSortCmp.NoneTotal
namespace Go.Proofs.YtnnklbfpgmndoaaGreatDoor
open Go.RowKit Js
open Go.Sort (SWO HoldsK PermIn SortedIn grow putRowK putRow mapBlock onCells ahead)

/-- A member's nine cells. -/
structure Raw where
  key : List UInt8
  k : Int
  b : Bool
  neg : Bool
  dg : List UInt8
  ex : Int
  s : List UInt8
  A : Option Addr
  n : Nat
  e : Nat
  B : Option Addr
  m : Nat
  d : Nat
instance : Inhabited Raw := ⟨⟨[], 0, false, false, [], 0, [], none, 0, 0, none, 0, 0⟩⟩
def Raw.vl (x : Raw) : Value := vlV x.k x.b x.neg x.dg x.ex x.s (.slice x.A x.n x.e) (.slice x.B x.m x.d)
def encR (x : Raw) : List Value := [.string ⟨x.key.toArray⟩, .int .i64 x.k, .bool x.b, .bool x.neg, .string ⟨x.dg.toArray⟩, .int .i64 x.ex, .string ⟨x.s.toArray⟩, .slice x.A x.n x.e, .slice x.B x.m x.d]
def cfR (x y : Raw) : Int := Lib.compareBytes x.key y.key

theorem ltR (x y : Raw) : ltOf cfR x y = decide (Lib.compareBytes x.key y.key = -1) := by
  have h := Nm.bytes_range x.key y.key
  unfold ltOf cfR
  rw [Bool.eq_iff_iff, decide_eq_true_eq, decide_eq_true_eq]
  omega
theorem swoR : SWO (ltOf cfR) where
  irrefl x := by rw [ltR, Nm.bytes_self]; rfl
  trans x y z h1 h2 := by
    rw [ltR, decide_eq_true_eq] at *
    exact less_trans h1 h2
  ntrans x y z h1 h2 := by
    rw [ltR, decide_eq_false_iff_not] at *
    have r1 := Nm.bytes_range x.key y.key
    have r2 := Nm.bytes_range y.key z.key
    have f1 := Nm.bytes_flip y.key x.key
    have f2 := Nm.bytes_flip z.key y.key
    have f3 := Nm.bytes_flip z.key x.key
    have := Nm.bytes_next z.key y.key x.key (by omega) (by omega)
    omega

set_option maxRecDepth 100000 in
set_option maxHeartbeats 2000000 in
theorem cmpR_any (x y : Raw) (W : World) : Calls Tryz.prog 69 #[.agg (encR x).toArray, .agg (encR y).toArray] W fun e w' => e = .returned (.int .i64 (cfR x y)) ∧ ∃ q os', w' = grow (W.drewN q) os' := by
  have hcon := fun (W' : World) => Tryz.strings_Compare ⟨x.key.toArray⟩ ⟨y.key.toArray⟩ W'
  obtain ⟨xk, x1, x2, x3, x4, x5, x6, x7, x8, x9, x10, x11, x12⟩ := x
  obtain ⟨yk, y1, y2, y3, y4, y5, y6, y7, y8, y9, y10, y11, y12⟩ := y
  unfold encR cfR
  simp only at hcon ⊢
  generalize Lib.compareBytes xk yk = r at hcon ⊢
  go_enter Tryz.func69, Tryz.ntmps69
  go_wp2_with (go_at_call 70; refine (hcon _).mono ?_; rintro e w' ⟨rfl, rfl⟩)
  go_ret
  exact ⟨rfl, 0, _, by rw [Sort.alloc_eq_grow, Sort.alloc_eq_grow, Sort.grow_grow]; rfl⟩

theorem perm_lift {α β : Type} {f : α → β} {m l' : List β} (h : m.Perm l') : ∀ Z : List α, Z.map f = m → ∃ Z', Z.Perm Z' ∧ Z'.map f = l' := by
  induction h with
  | nil => intro Z hZ; exact ⟨Z, .refl _, hZ⟩
  | cons x _ ih =>
    intro Z hZ
    cases Z with
    | nil => cases hZ
    | cons z Z =>
      simp only [List.map_cons, List.cons.injEq] at hZ
      obtain ⟨Z', h1, h2⟩ := ih Z hZ.2
      exact ⟨z :: Z', h1.cons z, by rw [List.map_cons, hZ.1, h2]⟩
  | swap x y l =>
    intro Z hZ
    match Z, hZ with
    | a :: b :: Z, hZ =>
      simp only [List.map_cons, List.cons.injEq] at hZ
      exact ⟨b :: a :: Z, List.Perm.swap _ _ _, by simp [hZ.1, hZ.2.1, hZ.2.2]⟩
    | [a], hZ => simp at hZ
    | [], hZ => simp at hZ
  | trans _ _ ih1 ih2 =>
    intro Z hZ
    obtain ⟨Z1, h1, h2⟩ := ih1 Z hZ
    obtain ⟨Z2, h3, h4⟩ := ih2 Z1 h2
    exact ⟨Z2, h1.trans h3, h4⟩

theorem grown_sorted {w : World} {g n : Nat} {os : Array Obj} (d : Array Raw) : w.grownBy (sortWorldK encR 9 w g 0 n d os) (some g) := by
  unfold sortWorldK putRowK
  refine ⟨rfl, rfl, rfl, by simp, fun k hk hne => ?_⟩
  rw [Sort.heap_grow_old _ _ (by simpa using hk)]
  have : g ≠ k := fun e => hne (by rw [e])
  simp [putRow, mapBlock, Array.getElem?_modify, this]

/-- The raw cells of a row of members. -/
theorem raws {c : Cl} {flat : List Value} {l : List Js.Mem} (hel : ∀ i p, l[i]? = some p → flat[i * 9]? = some (.string ⟨p.1.toArray⟩) ∧ ∃ x, p.2.In c x ∧ ∀ (j : Nat) u, x.cells[j]? = some u → flat[i * 9 + 1 + j]? = some u) :
    ∃ Z : List (Raw × Js.Mem), Z.map (·.2) = l ∧ ∀ i z, Z[i]? = some z → z.1.key = z.2.1 ∧ z.2.2.In c z.1.vl ∧ ∀ j, j < 9 → flat[i * 9 + j]? = (encR z.1)[j]? := by
  have h1 : ∀ p, p ∈ l → ∀ i, l[i]? = some p → ∃ r : Raw, r.key = p.1 ∧ p.2.In c r.vl ∧ ∀ j, j < 9 → flat[i * 9 + j]? = (encR r)[j]? := by
    intro p _ i hi
    obtain ⟨hk, x, hx, hc⟩ := hel i p hi
    obtain ⟨k, b, neg, dg, ex, s, A, n, e, B, m, d, rfl⟩ := In.cells hx
    refine ⟨⟨p.1, k, b, neg, dg, ex, s, A, n, e, B, m, d⟩, rfl, hx, fun j hj => ?_⟩
    match j, hj with
    | 0, _ => exact hk
    | j + 1, hj =>
      have := fun u h => hc j u h
      rw [show i * 9 + (j + 1) = i * 9 + 1 + j by omega]
      match j, hj with
      | 0, _ => exact hc 0 _ rfl
      | 1, _ => exact hc 1 _ rfl
      | 2, _ => exact hc 2 _ rfl
      | 3, _ => exact hc 3 _ rfl
      | 4, _ => exact hc 4 _ rfl
      | 5, _ => exact hc 5 _ rfl
      | 6, _ => exact hc 6 _ rfl
      | 7, _ => exact hc 7 _ rfl
  have h2 : ∀ n, n ≤ l.length → ∃ Z : List (Raw × Js.Mem), Z.map (·.2) = l.take n ∧ ∀ i z, Z[i]? = some z → z.1.key = z.2.1 ∧ z.2.2.In c z.1.vl ∧ ∀ j, j < 9 → flat[i * 9 + j]? = (encR z.1)[j]? := by
    intro n
    induction n with
    | zero => intro _; exact ⟨[], by simp, fun i z h => by simp at h⟩
    | succ n ih =>
      intro hn
      obtain ⟨Z, hZ, hz⟩ := ih (by omega)
      have hat : l[n]? = some l[n] := List.getElem?_eq_getElem (by omega)
      obtain ⟨r, hr1, hr2, hr3⟩ := h1 l[n] (List.getElem_mem _) n hat
      have hlen : Z.length = n := by
        have := congrArg List.length hZ
        rw [List.length_map, List.length_take] at this; omega
      refine ⟨Z ++ [(r, l[n])], ?_, fun i z hi => ?_⟩
      · rw [List.map_append, hZ, List.take_succ_eq_append_getElem (by omega)]; rfl
      · by_cases hlt : i < Z.length
        · rw [List.getElem?_append_left hlt] at hi; exact hz i z hi
        · obtain rfl : i = Z.length := by
            have := (List.getElem?_eq_some_iff.1 hi).1
            rw [List.length_append, List.length_singleton] at this; omega
          rw [List.getElem?_append_right (Nat.le_refl _)] at hi
          simp at hi
          subst hi
          rw [hlen]
          exact ⟨hr1, hr2, hr3⟩
  obtain ⟨Z, h3, h4⟩ := h2 l.length (Nat.le_refl _)
  exact ⟨Z, by rw [h3, List.take_length], h4⟩

/-- What is sorted, and has no key twice, is in order. -/
theorem sorted_members {d' : List Raw} {l' : List Js.Mem} {Z' : List (Raw × Js.Mem)} (h1 : Z'.map (·.1) = d') (h2 : Z'.map (·.2) = l') (hk : ∀ z ∈ Z', z.1.key = z.2.1) (hs : SortedIn (ltOf cfR) 0 d'.length d'.toArray) (hap : Ps.Apart l') : rises (l'.map (·.1)) = true := by
  rw [Ps.rises_iff, List.pairwise_map, List.pairwise_iff_getElem]
  intro i j hi hj hij
  have hlen1 : Z'.length = d'.length := by rw [← h1, List.length_map]
  have hlen2 : Z'.length = l'.length := by rw [← h2, List.length_map]
  have key : ∀ q (hq : q < l'.length), (d'.toArray[q]!).key = (l'[q]).1 := by
    intro q hq
    have e1 : d'.toArray[q]! = (Z'[q]'(by omega)).1 := by
      rw [getElem!_pos d'.toArray q (by simp; omega)]
      simp [← h1]
    have e2 : l'[q] = (Z'[q]'(by omega)).2 := by simp [← h2]
    rw [e1, e2]
    exact hk _ (List.getElem_mem _)
  have hsr := hs i j (Nat.zero_le _) hij (by omega)
  rw [ltR, decide_eq_false_iff_not, key j hj, key i hi] at hsr
  have hne := (List.pairwise_iff_getElem.1 hap) i j hi hj hij
  have r1 := Nm.bytes_range l'[i].1 l'[j].1
  have r2 := Nm.bytes_flip l'[i].1 l'[j].1
  have r3 : Lib.compareBytes l'[i].1 l'[j].1 ≠ 0 := fun e => hne (Nm.bytes_zero _ _ e)
  have r4 := Nm.bytes_range l'[j].1 l'[i].1
  omega

theorem apart_perm {a b : List Js.Mem} (h : a.Perm b) (ha : Ps.Apart a) : Ps.Apart b := (h.pairwise_iff (fun {_ _} hne => Ne.symm hne)).1 ha

set_option maxHeartbeats 2000000 in
/-- slices.SortFunc at an object's members. -/
theorem sortM_any {w : World} {B : Nat} {A : Option Addr} {cp : Nat} {l : List Js.Mem} (hrow : RowM w B A cp l) (hap : Ps.Apart l) (hl : l.length ≤ 1000000) :
    Calls Tryz.prog 68 #[.slice A l.length cp, .func (.func 69) #[] #[]] w fun e w' => e = .returned (.tuple #[]) ∧ Below B w w' ∧
      (Ps.mkO (Ps.sortM l)).In (w'.on (B ≤ ·)) (vlV 5 false false [] 0 [] (.slice none 0 0) (.slice A l.length cp)) := by
  cases l with
  | nil =>
    refine (AnyF.slices_SortFunc_none Tryz.sortm A cp _ w).mono ?_
    rintro e w' ⟨rfl, rfl⟩
    exact ⟨rfl, .refl _ _, hrow.in_ (Nat.le_refl _)⟩
  | cons p0 l0 =>
    generalize hll : p0 :: l0 = l at *
    have hpos : 0 < l.length := by rw [← hll]; simp
    clear hll
    obtain ⟨flat, hown, hone, hel⟩ := hrow
    have hle := own_le hown
    obtain ⟨g, rfl, hg1, hg2⟩ : ∃ g, A = some ⟨g, 0, none⟩ ∧ B ≤ g ∧ g < w.heap.size := by
      cases A with
      | none => have := (hle.2.2.1 rfl).1; omega
      | some ad => obtain ⟨g, rfl, h1, h2⟩ := hle.2.2.2 ad rfl; exact ⟨g, rfl, h1, h2⟩
    obtain ⟨Z, hZ2, hz⟩ := raws hel
    have hfl : flat.length = l.length * 9 := hown.1
    have hZl : Z.length = l.length := by rw [← hZ2, List.length_map]
    have hfz : ∀ j, w.frozen? ⟨g, j, none⟩ = false := by
      rcases hown.2 with ⟨h0, _⟩ | ⟨g', cap, cur, h1, h2, h3, _⟩
      · cases h0
      · injection h1 with e1 e2 e3
        injection e1 with e1
        injection e1 with e1
        subst e1
        exact fun j => frozen_of_row w g j cur _ h3
    have hds : ((Z.map (·.1)).toArray).size = l.length := by simp [hZl]
    have hH : HoldsK encR 9 w g 0 (Z.map (·.1)).toArray := by
      intro t ht
      rw [Sort.size_flatK, hds] at ht
      refine ⟨?_, hfz _⟩
      rw [Sort.get_flatK _ _ _ _ (by rw [hds]; exact ht), Nat.zero_add]
      have hq : t / 9 < Z.length := by omega
      have e1 : (Z.map (·.1)).toArray[t / 9]! = (Z[t / 9]'hq).1 := by
        rw [getElem!_pos _ _ (by rw [hds]; omega)]; simp
      rw [e1]
      have h5 := (hz (t / 9) _ (List.getElem?_eq_getElem hq)).2.2 (t % 9) (by omega)
      rw [show t / 9 * 9 + t % 9 = t by omega] at h5
      have h9 : (encR (Z[t / 9]'hq).1).length = 9 := rfl
      have h6 : (encR (Z[t / 9]'hq).1)[t % 9]? = some ((encR (Z[t / 9]'hq).1)[t % 9]!) := by
        rw [getElem!_pos _ _ (by rw [h9]; omega)]
        exact List.getElem?_eq_getElem _
      exact own_cell hown t _ (h5.trans h6)
    have eg : ∀ args w, (callFunc 69 args).run Tryz.prog w = .ok (.enter 69 args) w := enters_of Tryz.func69 (by kernel_rfl) rfl
    have hcon := AnyQ.slices_SortFunc Tryz.sortm 9 (fun w => by kernel_rfl) (fun w => by kernel_rfl) encR (fun _ => rfl) (fun x v hv => by simp [encR] at hv; rcases hv with rfl | rfl | rfl | rfl | rfl | rfl | rfl | rfl | rfl <;> rfl) cfR swoR 69 #[] g 0 cp (Z.map (·.1)).toArray w eg (fun _ _ _ _ x y => cmpR_any x y _) hH hg2 (by rw [hds]; omega)
    rw [hds] at hcon
    refine Calls.mono (show Calls Tryz.prog 68 _ _ _ from hcon) ?_
    rintro e w' ⟨rfl, d', n, os, hp, hs, rfl⟩
    have hgr := grown_sorted (w := w) (g := g) (n := n) (os := os) d'
    have hd's : d'.size = l.length := by rw [hp.1, hds]
    have hperm : (Z.map (·.1)).Perm d'.toList := by
      have h7 := hp.2.2
      have e1 : d'.extract 0 l.length = d' := by rw [← hd's]; exact Array.extract_size
      have e2 : (Z.map (·.1)).toArray.extract 0 l.length = (Z.map (·.1)).toArray := by rw [← hds]; exact Array.extract_size
      rw [e1, e2] at h7
      exact h7.symm
    obtain ⟨Z', hZp, hZ'⟩ := perm_lift hperm Z rfl
    have hZ'l : Z'.length = l.length := by rw [← hZp.length_eq, hZl]
    have hl' : (Z'.map (·.2)).Perm l := by rw [← hZ2]; exact (hZp.symm.map _)
    have hri := sorted_members hZ' rfl (fun z hzm => by
      have hm := hZp.mem_iff.2 hzm
      obtain ⟨i, hi⟩ := List.getElem?_of_mem hm
      exact (hz i z hi).1) (by rw [Array.length_toList, hd's]; simpa using hs) (apart_perm hl'.symm hap)
    have hsort : Z'.map (·.2) = Ps.sortM l := Ps.rises_unique (hl'.trans (Ps.sortM_perm l).symm) hri (Ps.sort_rises hap)
    have hH' : HoldsK encR 9 (sortWorldK encR 9 w g 0 n d' os) g 0 d' := holdsK_sortWorldK_c encR 9 w g 0 _ d' n os hH hg2 (by rw [hd's, hds])
    refine ⟨rfl, (Below.refl B w).grown hgr (by omega) (fun k hk => by cases hk; exact hg1), ?_⟩
    rw [← hsort]
    simp only [Vl.In]
    have hlen' : (Z'.map (·.2)).length = l.length := by rw [List.length_map, hZ'l]
    refine ⟨none, 0, some ⟨g, 0, none⟩, cp, by rw [hlen']; rfl, Nat.le_refl _, by simp [maxLen], by rw [hlen']; exact hle.1, hle.2.1, fun hn => absurd hn (by simp), fun _ => ⟨g, 0, rfl, MIn.of fun i p hi => ?_⟩⟩
    rw [List.getElem?_map] at hi
    cases hzi : Z'[i]? with
    | none => rw [hzi] at hi; cases hi
    | some z =>
      rw [hzi] at hi
      injection hi with hi
      subst hi
      have hzm : z ∈ Z := hZp.mem_iff.2 (List.mem_of_getElem? hzi)
      obtain ⟨i0, hi0⟩ := List.getElem?_of_mem hzm
      obtain ⟨hk, hin, _⟩ := hz i0 z hi0
      have hil : i < d'.size := by have := (List.getElem?_eq_some_iff.1 hzi).1; omega
      have hdi : d'[i]! = z.1 := by
        rw [getElem!_pos d' i hil, ← Array.getElem_toList (h := hil)]
        have h8 : d'.toList[i]? = some z.1 := by rw [← hZ', List.getElem?_map, hzi]; rfl
        exact (List.getElem?_eq_some_iff.1 h8).2
      have hc : ∀ c, c < 9 → (sortWorldK encR 9 w g 0 n d' os).cell? ⟨g, 0 + i * 9 + c, none⟩ = (encR z.1)[c]? := by
        intro c hc9
        have h9 : (encR z.1).length = 9 := rfl
        rw [(hH'.cell hil hc9).1, hdi, getElem!_pos _ _ (by rw [h9]; omega)]
        exact (List.getElem?_eq_getElem _).symm
      refine ⟨on_some.2 ⟨hg1, ?_⟩, z.1.vl, In.keep (fun p u hp => ?_) _ _ hin, fun j u hu => on_some.2 ⟨hg1, ?_⟩⟩
      · have := hc 0 (by omega)
        rw [Nat.add_zero] at this
        rw [this, ← hk]; rfl
      · obtain ⟨h10, h11⟩ := on_some.1 hp
        have hlt := World.block_lt_of_cell? w _ h11
        exact on_some.2 ⟨h10.1, by rw [hgr.cell_far p hlt (fun e => h10.2 _ rfl (by injection e))]; exact h11⟩
      · have hj8 : j < 8 := by
          have := (Array.getElem?_eq_some_iff.1 hu).1
          simpa [Raw.vl, Value.cells] using this
        rw [Nat.add_assoc (0 + i * 9) 1 j, hc (1 + j) (by omega), ← hu]
        match j, hj8 with
        | 0, _ => rfl
        | 1, _ => rfl
        | 2, _ => rfl
        | 3, _ => rfl
        | 4, _ => rfl
        | 5, _ => rfl
        | 6, _ => rfl
        | 7, _ => rfl

end Go.Proofs.YtnnklbfpgmndoaaGreatDoor

