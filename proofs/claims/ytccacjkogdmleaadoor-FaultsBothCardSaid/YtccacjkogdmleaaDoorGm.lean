/- slices.Clone, Grow, Concat, Compact at faults (layer 13). (By gen_gm.py.) -/
import Derived.Test.YtccacjkogdmleaaDoorGl
import Derived.OwnWalk
import Derived.WalkSpells
import Derived.BigQuiet
import Derived.Laws.StructEq
import Derived.Lib.AppendZeros
import Derived.Lib.SliceRun
import Derived.Deep.CutRange
namespace Go.Proofs.YtccacjkogdmleaaDoor
open Go.RowKit Js Pt

/-- A row of new memory, of these faults. -/
def NewF (w : World) (l : List Fl.F) (e : Ending) (w' : World) : Prop :=
  ∃ (A : Option Addr) (c : Nat), e = .returned (.slice A l.length c) ∧ w'.ownsRow w.heap.size 28 3 (.slice A l.length c) l.length (fFlat l) ∧ Below w.heap.size w w'

set_option linter.unusedVariables false in
set_option linter.unusedSimpArgs false in
set_option maxRecDepth 100000 in
set_option maxHeartbeats 2000000 in
theorem cloneF_any (l : List Fl.F) (A : Option Addr) (c : Nat) (w : World) (h : FAt w A l c) (hn : l.length ≤ 1000000) : Calls Tryd.prog 14 #[.slice A l.length c] w (NewF w l) := by
  have hnil : ∀ W, (binOp .eql 22 (.slice A l.length c) (.slice none 0 0)).run Tryd.prog W = .ok (.bool A.isNone) W := fun W => Lib.run_eql_slice_nil W _ 28 A l.length c 0 0 Tryd.underlying22
  cases A with
  | none =>
    have h0 := h.nil rfl
    have h1 := h.le
    have hl : l = [] := List.eq_nil_of_length_eq_zero (by omega)
    subst hl
    subst h0
    clear hnil h1
    have hnil : ∀ W, (binOp .eql 22 (.slice none 0 0) (.slice none 0 0)).run Tryd.prog W = .ok (.bool true) W := fun W => Lib.run_eql_slice_nil W _ 28 none 0 0 0 0 Tryd.underlying22
    rw [show ([] : List Fl.F).length = 0 from rfl]
    have HW := Lib.hid (show NewF w [] (.returned (.slice none 0 0)) w from ⟨none, 0, rfl, World.ownsRow_nil _ _ _ _, Below.refl _ _⟩)
    clear h
    go_enter Tryd.func14, Tryd.ntmps14
    go_wp2_with fail
    go_ret
    exact HW.out
  | some ad =>
    obtain ⟨i0, hi0, hz0, hz1, hz2⟩ := infoFault
    have HBE := Lib.hid ((Below.refl w.heap.size w).alloc (Nat.le_refl _) (.cells #[] 28))
    have HOWE := Lib.hid (show (w.alloc (.cells #[] 28)).ownsRow w.heap.size 28 3 (.slice (some ⟨w.heap.size, 0, none⟩) 0 0) 0 [] from World.ownsRow_lit w #[] 0 (Nat.le_refl _) (by unfold maxLen; omega) rfl)
    have HS := Lib.hid ((h.on HBE.out).src)
    clear h
    go_enter Tryd.func14, Tryd.ntmps14
    go_wp2_with (at_builtin; refine wpList_append_src _ rfl _ _ _ rfl w.heap.size 28 i0 _ 3 48 Tryd.underlying22 hi0 hz0 hz1 hz2 rfl (by omega) (.slice (some ⟨w.heap.size, 0, none⟩) 0 0) 0 [] rfl HOWE.out (some ad) l.length c (fFlat l) rfl (fFlat_length _) HS.out (fFlat_one _) (by unfold maxLen; omega) (by omega) (by simp) l.length (by omega) ?_; intro A1 c1 w1 hown1 hg1 hat1; have HOW1 := Lib.hid (show w1.ownsRow w.heap.size 28 3 (.slice A1 l.length c1) l.length (fFlat l) from hown1); have HB1 := Lib.hid (HBE.out.grown hg1 HBE.out.size (fun b hb => by rw [ownBlock_is13 hb]; exact Nat.le_refl _)); clear hown1 hg1 hat1)
    go_ret
    exact ⟨A1, c1, rfl, HOW1.out, HB1.out⟩

set_option linter.unusedVariables false in
set_option linter.unusedSimpArgs false in
set_option maxRecDepth 100000 in
set_option maxHeartbeats 2000000 in
theorem growF_any (N : Nat) (w : World) (hN : N ≤ 10000000) : Calls Tryd.prog 20 #[.slice none 0 0, .int .i64 (N : Int)] w (NewF w []) := by
  by_cases h0 : N = 0
  · subst h0
    go_enter Tryd.func20, Tryd.ntmps20
    go_wp2
    go_ret
    exact ⟨none, 0, rfl, World.ownsRow_nil _ _ _ _, Below.refl _ _⟩
  · have h1 : ¬ ((N : Int) < 0) := by omega
    have h4 : (N : Int) > 0 := by omega
    obtain ⟨i0, hi0, hz0, hz1, hz2⟩ := infoFault
    have hr := Lib.run_append_nil_zeros (P := Tryd.prog) w 22 3 22 28 i0 _ .i64 .i64 Tryd.underlying22 Tryd.underlying3 hi0 hz0 N (by omega) (by rw [hz1]; decide) (by omega) (by rw [hz2]; omega)
    have hge := grownCap_ge w N 0 28
    have hle := grownCap_le_maxLen w N 0 28 (by unfold maxLen; omega)
    generalize grownCap w N 0 28 = Q at *
    have HG := Lib.hid hge
    have HL := Lib.hid hle
    have hg63 : Q ≤ 9223372036854775807 := by unfold maxLen at hle; omega
    clear hge hle
    go_enter Tryd.func20, Tryd.ntmps20
    go_wp2_with (at_builtin; refine Lib.wpList_append_run _ rfl _ _ _ _ rfl _ _ rfl rfl _ _ hr ?_)
    go_ret
    refine ⟨_, Q, rfl, ⟨by simp [fFlat], .inr ⟨w.heap.size, Q, _, rfl, Nat.le_refl _, heap_alloc_new w.drew _, Nat.zero_le _, HL.out, ?_, by simp [fFlat]⟩⟩, (Below.refl _ _).drew.alloc (Nat.le_refl _) _⟩
    have hz : (Value.agg #[.string ⟨#[]⟩, .string ⟨#[]⟩, .string ⟨#[]⟩]).cells.size = 3 := rfl
    simp only [Array.size_append, size_zeroCells, hz, ← Nat.add_mul]
    congr 1
    have := HG.out
    omega

/-- What has been put behind one another. -/
def CatF (w : World) (a b : List Fl.F) (v6 v27 : Value) (wr : World) : Prop :=
  ∃ (j : Nat) (A : Option Addr) (N c : Nat) (acc : List Fl.F), v27 = .int .i64 j ∧ v6 = .slice A N c ∧ wr.ownsRow w.heap.size 28 3 (.slice A N c) N (fFlat acc) ∧ Below w.heap.size w wr ∧
    ((j = 0 ∧ 0 = N ∧ [] = acc) ∨ (j = 1 ∧ a.length = N ∧ a = acc) ∨ (j = 2 ∧ a.length + b.length = N ∧ a ++ b = acc))
set_option linter.unusedVariables false in
set_option linter.unusedSimpArgs false in
set_option maxRecDepth 100000 in
set_option maxHeartbeats 2000000 in
theorem concatF_any {w : World} {g : Nat} {a b : List Fl.F} {A1 A2 : Option Addr} {c1 c2 : Nat} (hb : Blk w g 22 #[.slice A1 a.length c1, .slice A2 b.length c2]) (ha : FAt w A1 a c1) (hb2 : FAt w A2 b c2) (h1 : a.length ≤ 1000000) (h2 : b.length ≤ 1000000) :
    Calls Tryd.prog 15 #[.slice (some ⟨g, 0, none⟩) 2 2] w (NewF w (a ++ b)) := by
  obtain ⟨b0, b1⟩ : w.cell? ⟨g, 0, none⟩ = some (.slice A1 a.length c1) ∧ w.cell? ⟨g, 1, none⟩ = some (.slice A2 b.length c2) := ⟨hb.cell 0, hb.cell 1⟩
  have hgl := hb.lt
  have HFA := Lib.hid ha
  have HFB := Lib.hid hb2
  have HAB := Lib.hid (show (a ++ b).length = a.length + b.length from List.length_append)
  unfold NewF
  clear hb ha hb2
  go_enter Tryd.func15, Tryd.ntmps15
  go_wp2_with fail
  go_loopw [3, 11] (fun v3 v11 wr => ((v11 = .int .i64 0 ∧ v3 = .int .i64 0) ∨ (v11 = .int .i64 1 ∧ v3 = .int .i64 a.length) ∨ (v11 = .int .i64 2 ∧ v3 = .int .i64 (a.length + b.length : Nat))) ∧ w = wr) (fun _ v11 _ => 2 - (intOf v11).toNat)
  case atStart => exact ⟨.inl ⟨rfl, rfl⟩, by first | rfl | trivial⟩
  case round =>
    obtain ⟨hs, rfl⟩ := hrel
    rcases hs with ⟨rfl, rfl⟩ | ⟨rfl, rfl⟩ | ⟨rfl, rfl⟩
    · go_wp2_with fail
      go_roundw
      case rel => exact ⟨.inr (.inl ⟨rfl, by simp⟩), by first | rfl | trivial⟩
      case measure => simp [intOf]
    · have hn : ¬ ((a.length : Int) + (b.length : Int) < 0) := by omega
      go_wp2_with fail
      go_roundw
      case rel => exact ⟨.inr (.inr ⟨rfl, by go_num⟩), by first | rfl | trivial⟩
      case measure => simp [intOf]
    · have HG := Lib.hid (growF_any (a.length + b.length) w (by omega))
      go_wp2_with fail
      refine HG.out.mono ?_
      rintro e w1 ⟨A, c, rfl, hown, hb⟩
      have HOWN := Lib.hid hown
      have HB := Lib.hid hb
      clear hown hb HG
      rw [show ([] : List Fl.F).length = 0 from rfl] at HOWN ⊢
      go_wp2_with fail
      go_loopw [6, 27] (CatF w a b) (fun _ v27 _ => 2 - (intOf v27).toNat)
      case atStart => exact ⟨0, A, 0, c, [], rfl, rfl, HOWN.out, HB.out, .inl ⟨rfl, rfl, rfl⟩⟩
      case round =>
        obtain ⟨j, A, N, c, acc, rfl, rfl, hown, hb, hj⟩ := hrel
        obtain ⟨wz, hwz⟩ : ∃ W, W = wr := ⟨_, rfl⟩
        subst hwz
        have HOWN := Lib.hid hown
        have HB := Lib.hid hb
        clear hown
        obtain ⟨i0, hi0, hz0, hz1, hz2⟩ := infoFault
        have HNEW := Lib.hid (fun k (hk : (Value.slice A N c).ownBlock = some k) => (show w.heap.size ≤ k by have := own_far HOWN.out (k := k); exact Nat.le_of_not_lt (fun hlt => this hlt hk.symm)))
        have e0 := (hb.cell (p := ⟨g, 0, none⟩) hgl).trans b0
        have e1 := (hb.cell (p := ⟨g, 1, none⟩) hgl).trans b1
        have hbs := hb.size
        clear hb
        rcases hj with ⟨rfl, rfl, rfl⟩ | ⟨rfl, rfl, rfl⟩ | ⟨rfl, rfl, rfl⟩
        · have HS := Lib.hid ((HFA.out.on HB.out).src)
          go_wp2_with (at_builtin; refine wpList_append_src _ rfl _ _ _ rfl w.heap.size 28 i0 _ 3 48 Tryd.underlying22 hi0 hz0 hz1 hz2 rfl (by omega) (.slice A 0 c) 0 [] rfl HOWN.out A1 a.length c1 (fFlat a) rfl (fFlat_length _) HS.out (fFlat_one _) (by unfold maxLen; omega) (by omega) hbs a.length (by omega) ?_; intro A9 c9 wx hown9 hg9 hat9; have HOWN9 := Lib.hid (show wx.ownsRow w.heap.size 28 3 (.slice A9 a.length c9) a.length (fFlat a) from hown9); have HB9 := Lib.hid (HB.out.grown hg9 hbs HNEW.out); clear hown9 hg9 hat9)
          go_roundw
          case rel => exact ⟨1, A9, _, c9, _, rfl, rfl, HOWN9.out, HB9.out, .inr (.inl ⟨rfl, rfl, rfl⟩)⟩
          case measure => simp [intOf]
        · have HS := Lib.hid ((HFB.out.on HB.out).src)
          obtain ⟨NN, hNN⟩ : ∃ N, a.length + b.length = N := ⟨_, rfl⟩
          have HNN := Lib.hid hNN
          clear hNN
          go_wp2_with (at_builtin; refine wpList_append_src _ rfl _ _ _ rfl w.heap.size 28 i0 _ 3 48 Tryd.underlying22 hi0 hz0 hz1 hz2 rfl (by omega) (.slice A a.length c) a.length (fFlat a) rfl HOWN.out A2 b.length c2 (fFlat b) rfl (fFlat_length _) HS.out (fFlat_one _) (by unfold maxLen; omega) (by omega) hbs NN HNN.out ?_; intro A9 c9 wx hown9 hg9 hat9; have HOWN9 := Lib.hid (show wx.ownsRow w.heap.size 28 3 (.slice A9 NN c9) NN (fFlat (a ++ b)) by rw [fFlat_append]; exact hown9); have HB9 := Lib.hid (HB.out.grown hg9 hbs HNEW.out); clear hown9 hg9 hat9)
          go_roundw
          case rel => exact ⟨2, A9, _, c9, _, rfl, rfl, HOWN9.out, HB9.out, .inr (.inr ⟨rfl, HNN.out, rfl⟩)⟩
          case measure => simp [intOf]
        · obtain ⟨NN, hNN⟩ : ∃ N, N = a.length + b.length := ⟨_, rfl⟩
          rw [← hNN] at HOWN ⊢
          have HNN := Lib.hid hNN
          clear hNN
          go_wp2_with fail
          go_ret
          refine ⟨A, c, by rw [HAB.out, HNN.out]; rfl, by rw [HAB.out, ← HNN.out]; exact HOWN.out, HB.out⟩

/-! Rows that are written. -/
def setAt13 : List Value → Nat → List Value → List Value
  | xs, _, [] => xs
  | xs, o, v :: r => setAt13 (xs.set o v) (o + 1) r
theorem setAt13_low : ∀ (r xs : List Value) (o j : Nat), j < o → (setAt13 xs o r)[j]? = xs[j]?
  | [], _, _, _, _ => rfl
  | v :: r, xs, o, j, h => by rw [setAt13, setAt13_low r _ _ _ (by omega), List.getElem?_set_ne (by omega)]
theorem own_setCells13 {base : Nat} {e : TypeId} {size g n cap : Nat} : ∀ (r : List Value) (w : World) (xs : List Value) (o : Nat), w.ownsRow base e size (.slice (some ⟨g, 0, none⟩) n cap) n xs → (w.setCells g o r).ownsRow base e size (.slice (some ⟨g, 0, none⟩) n cap) n (setAt13 xs o r)
  | [], _, _, _, h => h
  | v :: r, _, _, o, h => own_setCells13 r _ _ _ (own_set h o v)
theorem below_setCells13 {B g : Nat} {a : World} (hg : B ≤ g) (vs : List Value) : ∀ {w : World} {o : Nat}, Below B a w → Below B a (w.setCells g o vs) := by
  induction vs with
  | nil => intro w o h; exact h
  | cons v r ih => intro w o h; exact ih (h.setCell (p := ⟨g, o, none⟩) hg v)
theorem fFlat_set : ∀ (l : List Fl.F) (i : Nat) (x : Fl.F), (((fFlat l).set (i * 3) (.string ⟨x.inst.toArray⟩)).set (i * 3 + 1) (.string ⟨x.sch.toArray⟩)).set (i * 3 + 2) (.string ⟨x.kw.toArray⟩) = fFlat (l.set i x)
  | [], i, x => by simp [fFlat]
  | y :: r, 0, x => by
    show (((fCells y ++ fFlat r).set 0 _).set 1 _).set 2 _ = fCells x ++ fFlat r
    simp [fCells]
  | y :: r, i + 1, x => by
    have ih := fFlat_set r i x
    show (((fCells y ++ fFlat r).set ((i + 1) * 3) _).set ((i + 1) * 3 + 1) _).set ((i + 1) * 3 + 2) _ = fCells y ++ fFlat (r.set i x)
    rw [← ih, show (i + 1) * 3 = i * 3 + 3 by omega, show i * 3 + 3 + 1 = i * 3 + 1 + 3 by omega, show i * 3 + 3 + 2 = i * 3 + 2 + 3 by omega]
    simp [fCells]
theorem fFlat_set1 : ∀ (l : List Fl.F) (i : Nat) (x : Fl.F) (v : List UInt8), l[i]? = some x → (fFlat l).set (i * 3) (.string ⟨v.toArray⟩) = fFlat (l.set i { x with inst := v })
  | [], i, x, v, h => by simp at h
  | y :: r, 0, x, v, h => by
    simp only [List.getElem?_cons_zero, Option.some.injEq] at h
    subst h
    show (fCells y ++ fFlat r).set 0 _ = fCells { y with inst := v } ++ fFlat r
    simp [fCells]
  | y :: r, i + 1, x, v, h => by
    simp only [List.getElem?_cons_succ] at h
    have ih := fFlat_set1 r i x v h
    show (fCells y ++ fFlat r).set ((i + 1) * 3) _ = fCells y ++ fFlat (r.set i { x with inst := v })
    rw [← ih, show (i + 1) * 3 = i * 3 + 3 by omega]
    simp [fCells]
/-- Faults of a row, each by itself. -/
theorem own_at13 {w : World} {B g n c : Nat} {l : List Fl.F} (h : w.ownsRow B 28 3 (.slice (some ⟨g, 0, none⟩) n c) n (fFlat l)) {i : Nat} {x : Fl.F} (hi : l[i]? = some x) :
    (w.cell? ⟨g, i * 3, none⟩ = some (.string ⟨x.inst.toArray⟩) ∧ w.cell? ⟨g, i * 3 + 1, none⟩ = some (.string ⟨x.sch.toArray⟩) ∧ w.cell? ⟨g, i * 3 + 2, none⟩ = some (.string ⟨x.kw.toArray⟩)) ∧ g < w.heap.size :=
  ⟨⟨own_cell h _ _ (fFlat_at hi 0 _ rfl), own_cell h _ _ (fFlat_at hi 1 _ rfl), own_cell h _ _ (fFlat_at hi 2 _ rfl)⟩, World.block_lt_of_cell? _ _ (own_cell h _ _ (fFlat_at hi 0 _ rfl))⟩
theorem slicefrom13 (W : World) (g n cp k : Nat) (hk : k ≤ n) (hc : k < cp) : (Instr.slice 22 (.slice (some ⟨g, 0, none⟩) n cp) (some (.int .i64 (k : Int))) none none).run Tryd.prog W = .ok (.slice (some ⟨g, k * 3, none⟩) (n - k) (cp - k)) W := by
  rw [run_slice_l W 22 _ n cp (by simp [Program.elem, Tryd.underlying22]) .i64 (k : Int) (by omega) (by omega)]
  obtain ⟨i0, hi0, hz0, hz1, hz2⟩ := infoFault
  rw [show Tryd.prog.elem 22 = 28 by simp [Program.elem, Tryd.underlying22]]
  have hne : ¬ cp = k := by omega
  simp [sizeOf, typeInfo, hi0, hz1, sliced, hne, add_at13, Result.andThen]
theorem sliceto13 (W : World) (g n cp k : Nat) (hk : k ≤ cp) : (Instr.slice 22 (.slice (some ⟨g, 0, none⟩) n cp) none (some (.int .i64 (k : Int))) none).run Tryd.prog W = .ok (.slice (some ⟨g, 0, none⟩) k cp) W := by
  rw [run_slice_h W 22 _ n cp (by simp [Program.elem, Tryd.underlying22]) .i64 (k : Int) (by omega) (by omega)]
  obtain ⟨i0, hi0, hz0, hz1, hz2⟩ := infoFault
  rw [show Tryd.prog.elem 22 = 28 by simp [Program.elem, Tryd.underlying22]]
  simp [sizeOf, typeInfo, hi0, hz1, sliced, add_at13, Result.andThen]
theorem clear13 (W : World) (g o n c : Nat) (hn : 0 < n) (hc : ∀ j, j < n * 3 → (W.cell? ⟨g, o + j, none⟩).isSome = true) (hf : ∀ j, j < n * 3 → W.frozen? ⟨g, o + j, none⟩ = false) :
    ∃ r : List Value, ∀ ty, (Builtin.clear_ #[22] ty #[.slice (some ⟨g, o, none⟩) n c]).run Tryd.prog W = .ok (.tuple #[]) (W.setCells g o r) := by
  have hv : ∀ w, (zeroValue 28).run Tryd.prog w = .ok (.agg #[.string ⟨#[]⟩, .string ⟨#[]⟩, .string ⟨#[]⟩]) w := fun w => by kernel_rfl
  refine ⟨(Builtin.zeroCells #[.string ⟨#[]⟩, .string ⟨#[]⟩, .string ⟨#[]⟩] n).toList, fun ty => ?_⟩
  have hl : (Builtin.zeroCells #[.string ⟨#[]⟩, .string ⟨#[]⟩, .string ⟨#[]⟩] n).toList.length = n * 3 := by rw [Array.length_toList, size_zeroCells]; rfl
  have hst := run_storeCells_cells (P := Tryd.prog) g o (Builtin.zeroCells #[.string ⟨#[]⟩, .string ⟨#[]⟩, .string ⟨#[]⟩] n).toList 0 W (by rw [hl]; simpa using hc) (by rw [hl]; simpa using hf) (by
    intro v hv'
    simp only [Builtin.zeroCells, Array.toList_map, List.mem_map] at hv'
    obtain ⟨j, _, rfl⟩ := hv'
    have hm : j % 3 < 3 := Nat.mod_lt _ (by omega)
    show (#[Value.string ⟨#[]⟩, Value.string ⟨#[]⟩, Value.string ⟨#[]⟩][j % 3]!).oneCell' = true
    generalize j % 3 = q at hm
    match q, hm with
    | 0, _ => rfl
    | 1, _ => rfl
    | 2, _ => rfl)
  simp only [Nat.add_zero] at hst
  obtain ⟨m, rfl⟩ : ∃ m, n = m + 1 := ⟨n - 1, by omega⟩
  simp [Builtin.clear_, run_underlying Tryd.underlying22, hv, hst, Value.cells, Result.andThen]

theorem ndec_f {p : Prop} [Decidable p] (h : (!decide p) = false) : p := by simpa using h
theorem ndec_t {p : Prop} [Decidable p] (h : (!decide p) = true) : ¬ p := by simpa using h
theorem get_list13 {dk : Array Fl.F} {j : Nat} (h : j < dk.size) : dk.toList[j]? = some dk[j]! := by
  rw [getElem!_pos dk j h]
  simp [h]
theorem compact_fin13 {wv : World} {B g n cp kk : Nat} {dk : Array Fl.F} {r : List Fl.F} {L : List Value} (hown : wv.ownsRow B 28 3 (.slice (some ⟨g, 0, none⟩) n cp) n (fFlat dk.toList)) (hlen : r.length = kk) (hkn : kk ≤ n) (hlow : ∀ j, j < kk → r[j]? = some dk[j]!) : FAt (wv.setCells g (kk * 3) L) (some ⟨g, 0, none⟩) r cp := by
  have hle := own_le hown
  have hdl : dk.size = n := by have := hown.1; rw [fFlat_length, Array.length_toList] at this; omega
  refine ⟨fun i f hi => ?_, by omega, hle.2.1, fun h => by cases h⟩
  have hil := (List.getElem?_eq_some_iff.1 hi).1
  rw [hlow i (by omega)] at hi
  injection hi with hi
  have hc := fun q u (hu : (fCells f)[q]? = some u) => own_cell (own_setCells13 L _ _ (kk * 3) hown) (i * 3 + q) u (by
    have hq : q < 3 := (List.getElem?_eq_some_iff.1 hu).1
    rw [setAt13_low L _ _ _ (by omega)]
    exact fFlat_at (by rw [get_list13 (by omega), hi]) q u hu)
  exact ⟨g, 0, rfl, by rw [Nat.zero_add]; exact hc 0 _ rfl, by rw [Nat.zero_add]; exact hc 1 _ rfl, by rw [Nat.zero_add]; exact hc 2 _ rfl⟩

set_option linter.unusedVariables false in
set_option linter.unusedSimpArgs false in
set_option maxRecDepth 100000 in
set_option maxHeartbeats 2000000 in
theorem compactF_any {w : World} {B : Nat} {A : Option Addr} {cp : Nat} {d : List Fl.F} (hown : w.ownsRow B 28 3 (.slice A d.length cp) d.length (fFlat d)) (hB : B ≤ w.heap.size) (hl : d.length ≤ 1000000) {r : List Fl.F} (hr : Lib.compactUpTo d.toArray d.length = r) :
    Calls Tryd.prog 19 #[.slice A d.length cp] w fun e w' => ∃ (A' : Option Addr) (c' : Nat), e = .returned (.slice A' r.length c') ∧ FAt w' A' r c' ∧ Below B w w' := by
  have hall : (∀ j, j < d.length → Lib.keeps d.toArray j = true) → r = d := fun h => by
    rw [← hr, Lib.compactUpTo_all _ _ h]
    have := Lib.range_map_get d.toArray
    simpa using this
  by_cases h2 : d.length < 2
  · have hrd := hall (fun j hj => Lib.keeps_lt_one _ j (by omega))
    subst hrd
    have HF := Lib.hid (fat_own hown).1
    clear hown hr hall
    have hi : (r.length : Int) < 2 := by omega
    go_enter Tryd.func19, Tryd.ntmps19
    go_wp2_with fail
    go_ret
    exact ⟨A, cp, rfl, HF.out, Below.refl _ _⟩
  have hi2 : ¬ (d.length : Int) < 2 := by omega
  obtain ⟨hle1, hle2, hle3, hle4⟩ := own_le hown
  obtain ⟨g, rfl, hg1, hg2⟩ : ∃ g, A = some ⟨g, 0, none⟩ ∧ B ≤ g ∧ g < w.heap.size := by
    cases A with
    | none => have := (hle3 rfl).1; omega
    | some ad => obtain ⟨g, rfl, h1, h2⟩ := hle4 ad rfl; exact ⟨g, rfl, h1, h2⟩
  unfold maxLen at hle2
  have HOWN := Lib.hid hown
  have HALL := Lib.hid hall
  have HR := Lib.hid hr
  have hds : d.toArray.size = d.length := by simp
  have HDS := Lib.hid hds
  clear hown hall hle3 hle4 hr hds
  go_enter Tryd.func19, Tryd.ntmps19
  go_wp2_with fail
  go_loopw [3] (fun s3 wr => ∃ k : Nat, s3 = .int .i64 k ∧ 1 ≤ k ∧ k ≤ d.length ∧ (∀ j, j < k → Lib.keeps d.toArray j = true) ∧ Below w.heap.size w wr) (fun s3 _ => d.length - (intOf s3).toNat)
  case atStart => exact ⟨1, rfl, Nat.le_refl _, by omega, Lib.keeps_lt_one _, Below.refl _ _⟩
  case round =>
    obtain ⟨k, rfl, hk1, hk2, hkeep, hbr⟩ := hrel
    obtain ⟨wz, hwz⟩ : ∃ W, W = wr := ⟨_, rfl⟩
    subst hwz
    have HB := Lib.hid hbr
    have HK := Lib.hid hkeep
    have HO := Lib.hid (own_keep HOWN.out (fun b _ hb => hbr.block b hb))
    clear hbr hkeep
    by_cases hlt : k < d.length
    · have hii : (k : Int) < (d.length : Int) := by omega
      obtain ⟨x, hx⟩ : ∃ x, d[k]'hlt = x := ⟨_, rfl⟩
      obtain ⟨y, hy⟩ : ∃ y, d[k - 1]'(by omega) = y := ⟨_, rfl⟩
      have HX := Lib.hid (show d.toArray[k]! = x by rw [getElem!_pos d.toArray k (by simpa using hlt)]; simpa using hx)
      have HY := Lib.hid (show d.toArray[k - 1]! = y by rw [getElem!_pos d.toArray (k - 1) (by simp; omega)]; simpa using hy)
      obtain ⟨⟨c0, c1, c2⟩, hgl⟩ := own_at13 HO.out (show d[k]? = some x by rw [List.getElem?_eq_getElem hlt, hx])
      obtain ⟨⟨b0, b1, b2⟩, _⟩ := own_at13 HO.out (show d[k - 1]? = some y by rw [List.getElem?_eq_getElem (by omega), hy])
      clear hx hy
      obtain ⟨x1, x2, x3⟩ := x
      obtain ⟨y1, y2, y3⟩ := y
      simp only at c0 c1 c2 b0 b1 b2
      obtain ⟨eb, heb⟩ : ∃ eb, decide ((⟨x1, x2, x3⟩ : Fl.F) = ⟨y1, y2, y3⟩) = eb := ⟨_, rfl⟩
      have HEB := Lib.hid heb
      clear heb
      go_upto_region 6 with (fail)
      go_cut [25] from 16 to 25 (fun v25 wc => v25 = .bool eb ∧ Below wz.heap.size wz wc)
      case first =>
        cases eb with
        | true =>
          obtain ⟨rfl, rfl, rfl⟩ := Fl.F.eq_iff.1 (of_decide_eq_true HEB.out)
          go_quiet (fail)
          go_wp2_with fail
          go_meet
          case rel => exact ⟨rfl, below_drewN (Below.refl _ _) _⟩
        | false =>
          have hne : ¬ x1 = y1 ∨ (x1 = y1 ∧ ¬ x2 = y2) ∨ (x1 = y1 ∧ x2 = y2 ∧ ¬ x3 = y3) := by
            have hxy := of_decide_eq_false HEB.out
            by_cases h1 : x1 = y1
            · by_cases h2 : x2 = y2
              · exact .inr (.inr ⟨h1, h2, fun h3 => hxy (Fl.F.eq_iff.2 ⟨h1, h2, h3⟩)⟩)
              · exact .inr (.inl ⟨h1, h2⟩)
            · exact .inl h1
          rcases hne with h1 | ⟨rfl, h1⟩ | ⟨rfl, rfl, h1⟩
          all_goals
            have e1 := beq_eq_false_iff_ne.2 h1
            go_quiet (fail)
            go_wp2_with fail
            go_meet
            case rel => exact ⟨rfl, below_drewN (Below.refl _ _) _⟩
      case rest =>
        obtain ⟨rfl, hbc⟩ := hcut
        obtain ⟨wy, hwy⟩ : ∃ W, W = wc := ⟨_, rfl⟩
        subst hwy
        have HBY := Lib.hid (HB.out.trans (hbc.mono HB.out.size))
        have HOY := Lib.hid (own_keep HOWN.out (fun b _ hb => HBY.out.block b hb))
        clear hbc c0 c1 c2 b0 b1 b2 hgl HB HO
        cases eb with
        | false =>
          have hkn := Lib.keeps_pos (d := d.toArray) (m := k) (by rw [HX.out, HY.out]; exact of_decide_eq_false HEB.out)
          have HKN := Lib.hid hkn
          clear hkn
          go_wp2_with fail
          go_roundw
          case rel => exact ⟨k + 1, by go_num, by omega, by omega, (fun j hj => by
            by_cases e : j = k
            · subst e; exact HKN.out
            · exact HK.out j (by omega)), HBY.out⟩
          case measure => simp [intOf]; omega
        | true =>
          have HST := Lib.hid (Lib.CompInv.start HK.out (Lib.keeps_neg (d := d.toArray) (m := k) (by omega) (by rw [HX.out, HY.out]; exact of_decide_eq_true HEB.out)))
          have hs7 : ∀ W : World, (Instr.slice 22 (.slice (some ⟨g, 0, none⟩) d.length cp) (some (.int .i64 (k : Int))) none none).run Tryd.prog W = .ok (.slice (some ⟨g, k * 3, none⟩) (d.length - k) (cp - k)) W := fun W => slicefrom13 W g d.length cp k (by omega) (by omega)
          go_wp2_with fail
          go_loopw [3, 5] (fun s3 s5 wr => ∃ (kk k2 : Nat) (dk : Array Fl.F), s3 = .int .i64 kk ∧ s5 = .int .i64 k2 ∧ 1 ≤ k2 ∧ k + k2 ≤ d.length ∧ Lib.CompInv d.toArray (k + k2) kk dk ∧ wr.ownsRow B 28 3 (.slice (some ⟨g, 0, none⟩) d.length cp) d.length (fFlat dk.toList) ∧ Below B w wr) (fun _ s5 _ => d.length - (intOf s5).toNat)
          case atStart => exact ⟨k, 1, d.toArray, rfl, rfl, Nat.le_refl _, by omega, HST.out, HOY.out, HBY.out.mono hB⟩
          case round =>
            obtain ⟨kk, k2, dk, rfl, rfl, hk3, hk4, hI, hown, hbr⟩ := hrel
            obtain ⟨wv, hwv⟩ : ∃ W, W = wr := ⟨_, rfl⟩
            subst hwv
            have hkk := hI.lt
            have hdsz : dk.size = d.length := by rw [hI.size]; exact HDS.out
            have HI := Lib.hid hI
            have HOW := Lib.hid hown
            have HBW := Lib.hid hbr
            clear hI hown hbr
            by_cases hlt2 : k + k2 < d.length
            · have hjj : (k2 : Int) < ((d.length - k : Nat) : Int) := by omega
              obtain ⟨u, hu⟩ : ∃ u, d.toArray[k + k2]! = u := ⟨_, rfl⟩
              obtain ⟨v, hv⟩ : ∃ v, d.toArray[k + k2 - 1]! = v := ⟨_, rfl⟩
              obtain ⟨⟨c0, c1, c2⟩, hgl⟩ := own_at13 HOW.out (show dk.toList[k + k2]? = some u by rw [get_list13 (by omega), HI.out.high (k + k2) (by omega), hu])
              obtain ⟨⟨b0, b1, b2⟩, _⟩ := own_at13 HOW.out (show dk.toList[k + k2 - 1]? = some v by rw [get_list13 (by omega), HI.out.high (k + k2 - 1) (by omega), hv])
              rw [show (k + k2) * 3 = k * 3 + k2 * 3 by omega] at c0 c1 c2
              rw [show (k + k2 - 1) * 3 = k * 3 + (k2 - 1) * 3 by omega] at b0 b1 b2
              have HU := Lib.hid hu
              have HV := Lib.hid hv
              have HDK := Lib.hid hdsz
              clear hu hv hdsz
              obtain ⟨u1, u2, u3⟩ := u
              obtain ⟨v1, v2, v3⟩ := v
              simp only at c0 c1 c2 b0 b1 b2
              obtain ⟨nb, hnb⟩ : ∃ nb, (!decide ((⟨u1, u2, u3⟩ : Fl.F) = ⟨v1, v2, v3⟩)) = nb := ⟨_, rfl⟩
              have HNB := Lib.hid hnb
              clear hnb
              go_upto_region 11 with (fail)
              go_cut [44] from 35 to 44 (fun v44 wc => v44 = .bool nb ∧ Below wv.heap.size wv wc)
              case first =>
                cases nb with
                | false =>
                  obtain ⟨rfl, rfl, rfl⟩ := Fl.F.eq_iff.1 (ndec_f HNB.out)
                  go_quiet (fail)
                  go_wp2_with fail
                  go_meet
                  case rel => exact ⟨rfl, below_drewN (Below.refl _ _) _⟩
                | true =>
                  have hne : ¬ u1 = v1 ∨ (u1 = v1 ∧ ¬ u2 = v2) ∨ (u1 = v1 ∧ u2 = v2 ∧ ¬ u3 = v3) := by
                    have hxy : ¬ (⟨u1, u2, u3⟩ : Fl.F) = ⟨v1, v2, v3⟩ := ndec_t HNB.out
                    by_cases h1 : u1 = v1
                    · by_cases h2 : u2 = v2
                      · exact .inr (.inr ⟨h1, h2, fun h3 => hxy (Fl.F.eq_iff.2 ⟨h1, h2, h3⟩)⟩)
                      · exact .inr (.inl ⟨h1, h2⟩)
                    · exact .inl h1
                  rcases hne with h1 | ⟨rfl, h1⟩ | ⟨rfl, rfl, h1⟩
                  all_goals
                    have e1 := beq_eq_false_iff_ne.2 h1
                    go_quiet (fail)
                    go_wp2_with fail
                    go_meet
                    case rel => exact ⟨rfl, below_drewN (Below.refl _ _) _⟩
              case rest =>
                obtain ⟨rfl, hbc⟩ := hcut
                obtain ⟨wy2, hwy2⟩ : ∃ W, W = wc := ⟨_, rfl⟩
                subst hwy2
                have HOY2 := Lib.hid (own_keep HOW.out (fun b _ hb => hbc.block b hb))
                have HBY2 := Lib.hid (HBW.out.trans (hbc.mono (Nat.le_trans hB HBW.out.size)))
                clear b0 b1 b2 hgl
                cases nb with
                | false =>
                  have HSK := Lib.hid (HI.out.skip (Lib.keeps_neg (d := d.toArray) (m := k + k2) (by omega) (by rw [HU.out, HV.out]; exact ndec_f HNB.out)))
                  clear c0 c1 c2 hbc
                  go_wp2_with fail
                  go_roundw
                  case rel => exact ⟨kk, k2 + 1, dk, rfl, by go_num, by omega, by omega, HSK.out, HOY2.out, HBY2.out⟩
                  case measure => simp [intOf]; omega
                | true =>
                  have hkp := HI.out.keep (by rw [HDS.out]; exact hlt2) (Lib.keeps_pos (d := d.toArray) (m := k + k2) (by rw [HU.out, HV.out]; exact ndec_t HNB.out))
                  rw [HU.out] at hkp
                  have HKP := Lib.hid hkp
                  have hst := own_set (own_set (own_set HOY2.out (kk * 3) (.string ⟨u1.toArray⟩)) (kk * 3 + 1) (.string ⟨u2.toArray⟩)) (kk * 3 + 2) (.string ⟨u3.toArray⟩)
                  have hst2 := fFlat_set dk.toList kk ⟨u1, u2, u3⟩
                  simp only at hst2
                  rw [hst2, ← Array.toList_setIfInBounds] at hst
                  have HSTR := Lib.hid hst
                  have HBST := Lib.hid (((HBY2.out.setCell (p := ⟨g, kk * 3, none⟩) hg1 (.string ⟨u1.toArray⟩)).setCell (p := ⟨g, kk * 3 + 1, none⟩) hg1 (.string ⟨u2.toArray⟩)).setCell (p := ⟨g, kk * 3 + 2, none⟩) hg1 (.string ⟨u3.toArray⟩))
                  clear hkp hst hst2
                  replace c0 := le_below hbc _ _ c0
                  replace c1 := le_below hbc _ _ c1
                  replace c2 := le_below hbc _ _ c2
                  obtain ⟨⟨b0, b1, b2⟩, hgl⟩ := own_at13 HOY2.out (show dk.toList[kk]? = some dk[kk]! by rw [get_list13 (by rw [HDK.out]; omega)])
                  have f0 := HOY2.out.frozenAt (kk * 3)
                  have f1 := HOY2.out.frozenAt (kk * 3 + 1)
                  have f2 := HOY2.out.frozenAt (kk * 3 + 2)
                  have hkl : (kk : Int) < (d.length : Int) := by omega
                  clear hbc
                  go_wp2_with fail
                  go_roundw
                  case rel => exact ⟨kk + 1, k2 + 1, _, by go_num, by go_num, by omega, by omega, HKP.out, HSTR.out, HBST.out⟩
                  case measure => simp [intOf]; omega
            · have hend : k + k2 = d.length := by omega
              have hlow := HI.out.low
              have hlen := HI.out.len
              rw [hend, HR.out] at hlow hlen
              have HFIN := Lib.hid (fun (L : List Value) => compact_fin13 (L := L) HOW.out hlen (by omega) hlow)
              have hcs := fun (j : Nat) (hj : j < (d.length - kk) * 3) => (show (wv.cell? ⟨g, kk * 3 + j, none⟩).isSome = true by
                have hq : (kk * 3 + j) / 3 < dk.size := by omega
                have h7 := fFlat_at (get_list13 hq) ((kk * 3 + j) % 3) _ (List.getElem?_eq_getElem (show (kk * 3 + j) % 3 < (fCells dk[(kk * 3 + j) / 3]!).length by show (kk * 3 + j) % 3 < 3; omega))
                rw [show (kk * 3 + j) / 3 * 3 + (kk * 3 + j) % 3 = kk * 3 + j by omega] at h7
                rw [own_cell HOW.out _ _ h7]; rfl)
              obtain ⟨L, hcl⟩ := clear13 wv g (kk * 3) (d.length - kk) (cp - kk) (by omega) hcs (fun j _ => HOW.out.frozenAt _)
              have HBL := Lib.hid (below_setCells13 hg1 L (o := kk * 3) HBW.out)
              have HLEN := Lib.hid hlen
              have hs14 : ∀ W : World, (Instr.slice 22 (.slice (some ⟨g, 0, none⟩) d.length cp) (some (.int .i64 (kk : Int))) none none).run Tryd.prog W = .ok (.slice (some ⟨g, kk * 3, none⟩) (d.length - kk) (cp - kk)) W := fun W => slicefrom13 W g d.length cp kk (by omega) (by omega)
              have hs15 : ∀ W : World, (Instr.slice 22 (.slice (some ⟨g, 0, none⟩) d.length cp) none (some (.int .i64 (kk : Int))) none).run Tryd.prog W = .ok (.slice (some ⟨g, 0, none⟩) kk cp) W := fun W => sliceto13 W g d.length cp kk (by omega)
              clear hlow hlen hcs hs7
              have hnl : ¬ (k2 : Int) < ((d.length - k : Nat) : Int) := by omega
              go_wp2_with fail
              go_ret
              rw [HLEN.out]
              exact ⟨_, cp, rfl, HFIN.out _, HBL.out⟩
    · obtain rfl : k = d.length := by omega
      have hrd := HALL.out HK.out
      have HF := Lib.hid (fat_own HO.out).1
      go_wp2_with fail
      go_ret
      rw [hrd]
      exact ⟨_, cp, rfl, HF.out, HB.out.mono hB⟩

end Go.Proofs.YtccacjkogdmleaaDoor

