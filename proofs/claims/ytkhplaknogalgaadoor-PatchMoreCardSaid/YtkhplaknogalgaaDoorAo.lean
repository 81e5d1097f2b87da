/- What PatchMore of layer 8 (patch) leans on: lists of operations that are appended; a list of values that grows within a value. -/
import Derived.Test.YtkhplaknogalgaaDoorAl
import Derived.Test.YtkhplaknogalgaaDoorLa
import Derived.Test.YtkhplaknogalgaaDoorJn
namespace Go.Proofs.YtkhplaknogalgaaDoor
open Go.RowKit Pt Js Oq

/-- An append of what may be nil, at an operation that is wanted. -/
theorem wpList_append_srcx_w {P : Program} (w : World) {ops : Array Oper} {rest : List Oper} {o : Oper} {a : Act} {Q : Exit → Act → World → Prop} (hw : Region.wanted o (yielded ops a.tmps) = true) (s x : Operand) (t : TypeId)
    (ho : o.op = .call { callee := .builtin .append, args := #[s, x], argTypes := #[t, t] })
    (base : Nat) (e : TypeId) (i : TypeInfo) (z : Value) (size bytes : Nat) (ht : P.underlying t = some (.slice e)) (hi : P.info? e = some i) (hz : i.zero = some z)
    (hsize : i.size = size) (hby : i.bytes = bytes) (hzs : z.cells.size = size) (hsz : 0 < size)
    (v : Value) (n : Nat) (xs : List Value) (hs : a.eval s = v) (hown : w.ownsRow base e size v n xs)
    (A : Option Addr) (m c : Nat) (news : List Value) (hx : a.eval x = .slice A m c) (hl : news.length = m * size) (hsrc : SrcX w A m news) (h1 : ∀ u ∈ news, u.oneCell' = true)
    (h63 : n + m ≤ maxLen) (hbytes : (n + m) * bytes ≤ 140737488355328) (hbase : base ≤ w.heap.size) (N : Nat) (hN : n + m = N)
    (h : ∀ A' c' w', w'.ownsRow base e size (.slice A' N c') N (xs ++ news) → w.grownBy w' v.ownBlock → wpList P ops Q rest (a.put o.dst (.slice A' N c')) w') :
    wpList P ops Q (o :: rest) a w := by
  refine wpList_step fun K hK => ?_
  rw [if_pos hw]
  subst hN
  obtain ⟨v', w', hrun, k1, k2⟩ : ∃ v' w', (Builtin.append_ #[t, t] o.type #[v, .slice A m c]).run P w = .ok v' w' ∧ w'.ownsRow base e size v' (n + m) (xs ++ news) ∧ w.grownBy w' v.ownBlock := by
    cases A with
    | none =>
      have h0 := hsrc.1 rfl
      subst h0
      have hn : news = [] := List.eq_nil_of_length_eq_zero (by rw [hl, Nat.zero_mul])
      subst hn
      exact ⟨v, w, run_append_none_any w base t o.type e i size ht hi v n xs hown c, by simpa using hown, World.grownBy.refl w _⟩
    | some ad =>
      obtain ⟨v', w', r1, r2, r3, _, r5⟩ := run_append_own_at (P := P) w base t o.type e i z size bytes ht hi hz hsize hby hzs hsz v n xs hown ad m c news hl (hsrc.2 ad rfl) h1 h63 hbytes hbase
      exact ⟨v', w', r1, r2, r3⟩
  obtain ⟨A', c', rfl⟩ := slice_of_own k1
  unfold Oper.wp
  simp [execOp, ho, resolve, invoke, builtin, hs, hx, hrun, Result.andThen]
  exact hK _ _ (h A' c' w' k1 k2)

/-- What a list's cells are: of operations. -/
def FlatO (c : Cl) (l : List Opn) (flat : List Value) : Prop :=
  flat.length = l.length * 11 ∧ (∀ u ∈ flat, u.oneCell' = true) ∧ ∀ i o, l[i]? = some o → ∃ y, o.In c y ∧ ∀ (j : Nat) u, y.cells[j]? = some u → flat[i * 11 + j]? = some u
theorem FlatO.nil (c : Cl) : FlatO c [] [] := ⟨rfl, (fun u h => by cases h), fun i p h => by simp at h⟩
theorem FlatO.keep {c c' : Cl} (hc : c.le c') {l : List Opn} {f : List Value} (h : FlatO c l f) : FlatO c' l f :=
  ⟨h.1, h.2.1, fun i p hi => by obtain ⟨y, h1, h2⟩ := h.2.2 i p hi; exact ⟨y, OIn.keep hc h1, h2⟩⟩
theorem FlatO.append {c : Cl} {m n : List Opn} {f g : List Value} (h : FlatO c m f) (k : FlatO c n g) : FlatO c (m ++ n) (f ++ g) := by
  refine ⟨by rw [List.length_append, List.length_append, h.1, k.1, Nat.add_mul], fun u hu => (List.mem_append.1 hu).elim (h.2.1 u) (k.2.1 u), fun i p hi => ?_⟩
  by_cases hlt : i < m.length
  · rw [List.getElem?_append_left hlt] at hi
    obtain ⟨y, h1, h3⟩ := h.2.2 i p hi
    exact ⟨y, h1, fun j u hj => left_get (h3 j u hj)⟩
  · rw [List.getElem?_append_right (by omega)] at hi
    obtain ⟨y, h1, h3⟩ := k.2.2 _ p hi
    have e : ∀ r, i * 11 + r = f.length + ((i - m.length) * 11 + r) := fun r => by rw [h.1, Nat.sub_mul]; have : m.length * 11 ≤ i * 11 := Nat.mul_le_mul_right _ (by omega); omega
    refine ⟨y, h1, fun j u hj => ?_⟩
    rw [e, List.getElem?_append_right (by omega), Nat.add_sub_cancel_left]; exact h3 j u hj
theorem cells11 {c : Cl} {o : Opn} {y : Value} (h : o.In c y) : y.cells.toList.length = 11 ∧ ∀ u ∈ y.cells.toList, u.oneCell' = true := by
  obtain ⟨k_o, k_p, k_q, k_r, k_s, k_t, k_u, k_1, k_2, k_3, k_4, k_5, k_6, k_7, k_8, k_9, k_a, k_b, k_c, rfl⟩ := OIn.cells h
  refine ⟨rfl, fun u hu => ?_⟩
  simp only [Value.cells, List.mem_cons, List.not_mem_nil, or_false] at hu
  rcases hu with rfl | rfl | rfl | rfl | rfl | rfl | rfl | rfl | rfl | rfl | rfl <;> rfl
theorem FlatO.one {c : Cl} {o : Opn} {y : Value} (h : o.In c y) : FlatO c [o] y.cells.toList := by
  obtain ⟨h8, h1⟩ := cells11 h
  refine ⟨by simp only [h8, List.length_cons, List.length_nil], h1, fun i q hi => ?_⟩
  have hl := (List.getElem?_eq_some_iff.1 hi).1
  obtain rfl : i = 0 := by simpa using hl
  obtain rfl : o = q := by simpa using hi
  refine ⟨y, h, fun j u hj => ?_⟩
  rw [Nat.zero_mul, Nat.zero_add, Array.getElem?_toList]; exact hj
theorem FlatO.of {c : Cl} {g : Nat} : ∀ (m : List Opn) (o : Nat), (∀ i p, m[i]? = some p → ∃ y, p.In c y ∧ CellsAt c g (o + i * 11) y) →
    ∃ f, FlatO c m f ∧ ∀ (j : Nat) u, f[j]? = some u → c ⟨g, o + j, none⟩ = some u
  | [], o, _ => ⟨[], FlatO.nil c, fun j u h => by simp at h⟩
  | p :: m, o, h => by
    obtain ⟨y, h1, h3⟩ := h 0 p rfl
    obtain ⟨f, k1, k2⟩ := FlatO.of m (o + 11) (fun i q hi => by
      obtain ⟨z, q1, q3⟩ := h (i + 1) q (by simpa using hi)
      rw [show o + (i + 1) * 11 = o + 11 + i * 11 by omega] at q3
      exact ⟨z, q1, q3⟩)
    refine ⟨y.cells.toList ++ f, (FlatO.one h1).append k1, fun j u hj => ?_⟩
    obtain ⟨h8, _⟩ := cells11 h1
    rw [Nat.zero_mul, Nat.add_zero] at h3
    by_cases hlt : j < 11
    · rw [List.getElem?_append_left (by rw [h8]; exact hlt), Array.getElem?_toList] at hj
      exact h3 j u hj
    · rw [List.getElem?_append_right (by rw [h8]; omega), h8] at hj
      have := k2 _ u hj
      rw [show o + 11 + (j - 11) = o + j by omega] at this
      exact this
theorem SlO_flat {w : World} {A : Option Addr} {m : List Opn} (h : SlO w.cell? A m) : ∃ f, FlatO w.cell? m f ∧ SrcX w A m.length f := by
  cases m with
  | nil => exact ⟨[], FlatO.nil _, fun _ => rfl, fun ad _ j u hj => by simp at hj⟩
  | cons p m =>
    obtain ⟨g, o, _, rfl, _, _⟩ := h 0 p rfl
    obtain ⟨f, k1, k2⟩ := FlatO.of (c := w.cell?) (g := g) (p :: m) o (fun i q hi => by
      obtain ⟨g', o', y, e, q1, q3⟩ := h i q hi
      injection e with e; injection e with e1 e2; subst e1 e2
      exact ⟨y, q1, q3⟩)
    exact ⟨f, k1, (fun e => by cases e), fun ad e j u hj => by injection e with e; subst e; rw [add_at]; exact k2 j u hj⟩
theorem FlatO.sl {w : World} {B : Nat} {A : Option Addr} {N c : Nat} {m : List Opn} {f : List Value} (h : FlatO w.cell? m f) (hown : w.ownsRow B 48 11 (.slice A N c) N f) : SlO w.cell? A m := fun i p hi => by
  obtain ⟨y, h1, h3⟩ := h.2.2 i p hi
  have hil := (List.getElem?_eq_some_iff.1 hi).1
  rcases hown.2 with ⟨_, h0⟩ | ⟨g, cap, cur, e, hbg, _⟩
  · have := hown.1; have := h.1; omega
  · injection e with e1 e2 e3
    subst e1
    have hc := hown.cells (g := g) rfl
    refine ⟨g, 0, y, rfl, h1, fun j u hj => ?_⟩
    have := hc _ _ (h3 j u hj); rw [add_at] at this; rw [show 0 + i * 11 + j = 0 + (i * 11 + j) by omega]; exact this
theorem SlV_flat' {w : World} {A : Option Addr} {m : List Vl} (h : SlL w.cell? A m) : ∃ f, FlatV w.cell? m f ∧ SrcX w A m.length f := by
  obtain ⟨f, h1, h2⟩ := SlV_flat (S := fun b => b < w.heap.size) (SlL.keep (le_whole w) h)
  exact ⟨f, h1.keep (on_all _ _), h2⟩
theorem FlatV.sl' {w : World} {B : Nat} {A : Option Addr} {N c : Nat} {m : List Vl} {f : List Value} (h : FlatV w.cell? m f) (hown : w.ownsRow B 28 8 (.slice A N c) N f) : SlL w.cell? A m := h.sl (fun _ _ _ _ h => h) hown

/-- What a value's slot is, where its parts are told. -/
theorem In.slice {c : Cl} {k : Int} {b : Bool} {n : Nm.Num} {s : List UInt8} {l : List Vl} {m : List Js.Mem} {j_1 : Int} {j_2 j_3 : Bool} {j_4 : List UInt8} {j_5 : Int} {j_6 : List UInt8} {j_7 : Option Addr} {j_8 j_9 : Nat} {j_a : Option Addr} {j_b j_c : Nat} (h : (Vl.mk k b n s l m).In c (.agg #[.int .i64 j_1, .bool j_2, .bool j_3, .string ⟨j_4.toArray⟩, .int .i64 j_5, .string ⟨j_6.toArray⟩, .slice j_7 j_8 j_9, .slice j_a j_b j_c])) :
    j_8 = l.length ∧ l.length ≤ j_9 ∧ j_9 ≤ maxLen ∧ SlL c j_7 l := by
  obtain ⟨A, e, B, d, hx, q1, q2, q3, q4, q5, q6⟩ := In.form h
  injection hx with hx
  simp only [Array.mk.injEq, List.cons.injEq, Value.slice.injEq] at hx
  obtain ⟨_, _, _, _, _, _, ⟨h7, h8, h9⟩, _⟩ := hx
  subst h7 h8 h9
  exact ⟨rfl, q1, q2, q5⟩

/-! Two appends to a new row, and a new block, in whatever order. -/
theorem via_world {K : Act → World → Prop} {a : Act} {w' : World} (F : World → Prop) (hF : F w') (h : ∀ W, F W → K a W) : K a w' := h w' hF
theorem step_append_srcx {P : Program} (w : World) {ops : Array Oper} {o : Oper} {a : Act} {K : Act → World → Prop} {Q : Exit → Act → World → Prop} {E : Prop} (hgd : o.guard = none) (s x : Operand) (t : TypeId)
    (ho : o.op = .call { callee := .builtin .append, args := #[s, x], argTypes := #[t, t] })
    (base : Nat) (e : TypeId) (i : TypeInfo) (z : Value) (size bytes : Nat) (ht : P.underlying t = some (.slice e)) (hi : P.info? e = some i) (hz : i.zero = some z)
    (hsize : i.size = size) (hby : i.bytes = bytes) (hzs : z.cells.size = size) (hsz : 0 < size)
    (v : Value) (n : Nat) (xs : List Value) (hs : a.eval s = v) (hown : w.ownsRow base e size v n xs)
    (A : Option Addr) (m c : Nat) (news : List Value) (hx : a.eval x = .slice A m c) (hl : news.length = m * size) (hsrc : SrcX w A m news) (h1 : ∀ u ∈ news, u.oneCell' = true)
    (h63 : n + m ≤ maxLen) (hbytes : (n + m) * bytes ≤ 140737488355328) (hbase : base ≤ w.heap.size) (N : Nat) (hN : n + m = N)
    (h : ∀ A' c' w', w'.ownsRow base e size (.slice A' N c') N (xs ++ news) → w.grownBy w' v.ownBlock → ((Value.slice A' N c').ownBlock = v.ownBlock ∨ (Value.slice A' N c').ownBlock = some w.heap.size) → K (a.put o.dst (.slice A' N c')) w') :
    if Region.wanted o (yielded ops a.tmps) = true then Oper.wp P o a w K Q else E := by
  have hw : Region.wanted o (yielded ops a.tmps) = true := by simp [Region.wanted, hgd]
  rw [if_pos hw]
  subst hN
  obtain ⟨v', w', hrun, k1, k2, k3⟩ : ∃ v' w', (Builtin.append_ #[t, t] o.type #[v, .slice A m c]).run P w = .ok v' w' ∧ w'.ownsRow base e size v' (n + m) (xs ++ news) ∧ w.grownBy w' v.ownBlock ∧ (v'.ownBlock = v.ownBlock ∨ v'.ownBlock = some w.heap.size) := by
    cases A with
    | none =>
      have h0 := hsrc.1 rfl
      subst h0
      have hn : news = [] := List.eq_nil_of_length_eq_zero (by rw [hl, Nat.zero_mul])
      subst hn
      exact ⟨v, w, run_append_none_any w base t o.type e i size ht hi v n xs hown c, by simpa using hown, World.grownBy.refl w _, .inl rfl⟩
    | some ad =>
      obtain ⟨v', w', r1, r2, r3, _, r5⟩ := run_append_own_at (P := P) w base t o.type e i z size bytes ht hi hz hsize hby hzs hsz v n xs hown ad m c news hl (hsrc.2 ad rfl) h1 h63 hbytes hbase
      exact ⟨v', w', r1, r2, r3, r5⟩
  obtain ⟨A', c', rfl⟩ := slice_of_own k1
  unfold Oper.wp
  simp [execOp, ho, resolve, invoke, builtin, hs, hx, hrun, Result.andThen]
  exact h A' c' w' k1 k2 k3

/-- Two slices that are read, and what is older, as they were. -/
def Held11 (gA gB : Nat) (sA sB : Value) (w w' : World) : Prop := w'.cell? ⟨gA, 6, none⟩ = some sA ∧ w'.cell? ⟨gB, 6, none⟩ = some sB ∧ Below w.heap.size w w' ∧ gA < w.heap.size ∧ gB < w.heap.size
section
variable {gA gB gZ n c : Nat} {sA sB : Value} {w w' w'' : World} {A : Option Addr} {f : List Value}
theorem Held11.drew (h : Held11 gA gB sA sB w w') : Held11 gA gB sA sB w w'.drew := ⟨h.1, h.2.1, h.2.2.1.drew, h.2.2.2⟩
theorem Held11.alloc (h : Held11 gA gB sA sB w w') (o : Obj) : Held11 gA gB sA sB w (w'.alloc o) := ⟨le_alloc _ _ _ _ h.1, le_alloc _ _ _ _ h.2.1, h.2.2.1.alloc h.2.2.1.size o, h.2.2.2⟩
theorem Held11.grown (h : Held11 gA gB sA sB w w') (hown : w'.ownsRow w.heap.size 28 8 (.slice A n c) n f) (hg : w'.grownBy w'' (Value.slice A n c).ownBlock) : Held11 gA gB sA sB w w'' := by
  have hs := h.2.2.1.size
  have hle := own_le hown
  have hk : ∀ k, (Value.slice A n c).ownBlock = some k → w.heap.size ≤ k := fun k hk => own_new (fun ad e => by obtain ⟨g, rfl, h1, _⟩ := hle.2.2.2 ad e; exact h1) hk
  have hc : ∀ g, g < w.heap.size → w''.cell? ⟨g, 6, none⟩ = w'.cell? ⟨g, 6, none⟩ := fun g hlt => hg.cell_far _ (Nat.lt_of_lt_of_le hlt hs) (fun e => by have := hk g e.symm; omega)
  exact ⟨(hc _ h.2.2.2.1).trans h.1, (hc _ h.2.2.2.2).trans h.2.1, h.2.2.1.grown hg hs hk, h.2.2.2⟩
theorem heap_set8' (w : World) (g : Nat) (v0 v1 v2 v3 v4 v5 v6 v7 : Value) {b : Nat} (hb : b ≠ g) : (set8 w g v0 v1 v2 v3 v4 v5 v6 v7).heap[b]? = w.heap[b]? := by
  simp only [set8, heap_setCell _ _ _ _ hb]
theorem Held11.set8 (h : Held11 gA gB sA sB w w') (hz : w.heap.size ≤ gZ) (v0 v1 v2 v3 v4 v5 v6 v7 : Value) : Held11 gA gB sA sB w (Go.Proofs.YtkhplaknogalgaaDoor.set8 w' gZ v0 v1 v2 v3 v4 v5 v6 v7) := by
  have hc : ∀ g, g < w.heap.size → (Go.Proofs.YtkhplaknogalgaaDoor.set8 w' gZ v0 v1 v2 v3 v4 v5 v6 v7).cell? ⟨g, 6, none⟩ = w'.cell? ⟨g, 6, none⟩ := fun g hlt => World.cell?_of_block (heap_set8' _ _ _ _ _ _ _ _ _ _ (by show g ≠ gZ; omega))
  exact ⟨(hc _ h.2.2.2.1).trans h.1, (hc _ h.2.2.2.2).trans h.2.1, below_set8 h.2.2.1 hz _ _ _ _ _ _ _ _, h.2.2.2⟩
end
/-- A new block, apart from the row. -/
structure ZAt (w : World) (B gZ : Nat) (A : Option Addr) : Prop where
  blk : Blk w gZ 28 zero8
  ge : B ≤ gZ
  ne : ∀ ad, A = some ad → ad.block ≠ gZ
theorem ZAt.new {w : World} {B : Nat} {A : Option Addr} (hB : B ≤ w.heap.size) (hA : ∀ ad, A = some ad → ad.block < w.heap.size) : ZAt (w.alloc (.cells zero8 28)) B w.heap.size A :=
  ⟨Blk.new _ _ _, hB, fun ad e => by have := hA ad e; omega⟩
theorem ZAt.row {w : World} {B gZ : Nat} (h : ZAt w B gZ none) (o : Obj) : ZAt (w.alloc o) B gZ (some ⟨w.heap.size, 0, none⟩) :=
  ⟨h.blk.alloc _, h.ge, fun ad e => by cases e; have := h.blk.lt; show w.heap.size ≠ gZ; omega⟩
theorem ZAt.grown {w w' : World} {B gZ n c n' c' : Nat} {A A' : Option Addr} (h : ZAt w B gZ A) (hg : w.grownBy w' (Value.slice A n c).ownBlock) (hat : (Value.slice A' n' c').ownBlock = (Value.slice A n c).ownBlock ∨ (Value.slice A' n' c').ownBlock = some w.heap.size) : ZAt w' B gZ A' := by
  have hlt := h.blk.lt
  refine ⟨(hg.block gZ hlt (fun e => ?_)).trans h.blk, h.ge, fun ad e => ?_⟩
  · cases A with
    | none => cases e
    | some ad =>
      have e2 : ad.block = gZ := by simpa [Value.ownBlock] using e.symm
      exact h.ne ad rfl e2
  · subst e
    rcases hat with k | k
    · cases A with
      | none => cases k
      | some ad2 =>
        have e2 : ad.block = ad2.block := by simpa [Value.ownBlock] using k
        rw [e2]; exact h.ne ad2 rfl
    · have e2 : ad.block = w.heap.size := by simpa [Value.ownBlock] using k
      omega
theorem own_lt {w : World} {B n c : Nat} {e : TypeId} {sz : Nat} {A : Option Addr} {f : List Value} (h : w.ownsRow B e sz (.slice A n c) n f) : ∀ ad, A = some ad → ad.block < w.heap.size := fun ad ha => by
  obtain ⟨g, rfl, _, h2⟩ := (own_le h).2.2.2 ad ha; exact h2
theorem FlatV.sl2 {w : World} {B : Nat} {A : Option Addr} {N c : Nat} {r : Cl} {m : List Vl} {f : List Value} (h : FlatV r m f) (hr : ∀ g j u, A = some ⟨g, 0, none⟩ → w.cell? ⟨g, j, none⟩ = some u → r ⟨g, j, none⟩ = some u) (hown : w.ownsRow B 28 8 (.slice A N c) N f) : SlL r A m := fun i p hi => by
  obtain ⟨y, h1, h3⟩ := h.2.2 i p hi
  have hil := (List.getElem?_eq_some_iff.1 hi).1
  rcases hown.2 with ⟨_, h0⟩ | ⟨g, cap, cur, e, hbg, _⟩
  · have := hown.1; have := h.1; omega
  · injection e with e1 e2 e3
    subst e1
    have hc := hown.cells (g := g) rfl
    refine ⟨g, 0, y, rfl, h1, fun j u hj => ?_⟩
    have := hc _ _ (h3 j u hj); rw [add_at] at this; rw [show 0 + i * 8 + j = 0 + (i * 8 + j) by omega]; exact hr _ _ _ rfl this
/-- What the region leaves: a value of both lists. -/
def Fin11 (w : World) (La Lb : List Vl) (gZ : Nat) (A : Option Addr) (c : Nat) (w' : World) : Prop :=
  Blk w' gZ 28 #[.int .i64 4, .bool false, .bool false, .string ⟨#[]⟩, .int .i64 0, .string ⟨#[]⟩, .slice A (La.length + Lb.length) c, .slice none 0 0] ∧ SlL w'.cell? A (La ++ Lb) ∧ La.length + Lb.length ≤ c ∧ c ≤ maxLen ∧ Below w.heap.size w w'
theorem fin11' {w w' W : World} {La Lb : List Vl} {gZ c : Nat} {A : Option Addr} {f : List Value} (hf : FlatV (w.on fun b => b < w.heap.size) (La ++ Lb) f) (hown : w'.ownsRow w.heap.size 28 8 (.slice A (La.length + Lb.length) c) (La.length + Lb.length) f)
    (hne : ∀ ad, A = some ad → ad.block ≠ gZ) (hge : w.heap.size ≤ gZ) (hb : Below w.heap.size w w') (hblk : Blk W gZ 28 #[.int .i64 4, .bool false, .bool false, .string ⟨#[]⟩, .int .i64 0, .string ⟨#[]⟩, .slice A (La.length + Lb.length) c, .slice none 0 0])
    (hbel : Below w.heap.size w W) (hk : ∀ b, b ≠ gZ → W.heap[b]? = w'.heap[b]?) : Fin11 w La Lb gZ A c W := by
  have hle := own_le hown
  refine ⟨hblk, FlatV.sl2 (r := W.cell?) (FlatV.keep (c' := W.cell?) (fun p u hp => ?_) hf) (fun g j u e hu => ?_) hown, hle.1, hle.2.1, hbel⟩
  · obtain ⟨h1, h2⟩ := on_some.1 hp
    have h3 := le_below hb _ _ h2
    have h4 : p.block < w.heap.size := h1
    rw [World.cell?_of_block (w := w') (hk p.block (by omega))]
    exact h3
  · have h4 : g ≠ gZ := hne _ e
    rw [World.cell?_of_block (w := w') (hk g h4)]
    exact hu
theorem fin11 {w w' : World} {La Lb : List Vl} {gZ c : Nat} {A : Option Addr} {f : List Value} (hf : FlatV (w.on fun b => b < w.heap.size) (La ++ Lb) f) (hown : w'.ownsRow w.heap.size 28 8 (.slice A (La.length + Lb.length) c) (La.length + Lb.length) f)
    (hz : ZAt w' w.heap.size gZ A) (hb : Below w.heap.size w w') :
    Fin11 w La Lb gZ A c (set8 w' gZ (.int .i64 4) (.bool false) (.bool false) (.string ⟨#[]⟩) (.int .i64 0) (.string ⟨#[]⟩) (.slice A (La.length + Lb.length) c) (.slice none 0 0)) :=
  fin11' hf hown hz.ne hz.ge hb (hz.blk.set8 _ _ _ _ _ _ _ _) (below_set8 hb hz.ge _ _ _ _ _ _ _ _) (fun _ hne => heap_set8' _ _ _ _ _ _ _ _ _ _ hne)

/-! The patch of the law's own, that grows. -/
abbrev moreC (A : Option Addr) (n c : Nat) : Array Value := #[.int .i64 4, .bool false, .bool false, .string ⟨#[]⟩, .int .i64 0, .string ⟨#[]⟩, .slice A n c, .slice none 0 0]
structure MoreRow (W : World) (g20 : Nat) (La : List Vl) (key : List UInt8) (j : Nat) (acc : List Vl) (A : Option Addr) (cp : Nat) (wr : World) : Prop where
  hj : j ≤ La.length
  eq : acc = (La.take j).map (moreOf key)
  o : Blk wr g20 28 (moreC A acc.length cp)
  row : RowG ItV 28 8 (fun b => b < g20) wr (g20 + 1) A cp acc
  eg : g20 = W.heap.size
  below : Below W.heap.size W wr
def Moring (W : World) (g20 : Nat) (La : List Vl) (key : List UInt8) (v : Value) (wr : World) : Prop :=
  ∃ (j : Nat) (acc : List Vl) (A : Option Addr) (cp : Nat), v = .int .i64 j ∧ MoreRow W g20 La key j acc A cp wr
section
variable {W : World} {g20 : Nat} {La : List Vl} {key : List UInt8} {j : Nat} {acc : List Vl} {A : Option Addr} {cp : Nat} {wr w' : World}
theorem MoreRow.len (h : MoreRow W g20 La key j acc A cp wr) : acc.length = j := by
  have := congrArg List.length h.eq
  rw [List.length_map, List.length_take] at this
  have := h.hj
  omega
theorem MoreRow.on (h : MoreRow W g20 La key j acc A cp wr) (hb : Below wr.heap.size wr w') : MoreRow W g20 La key j acc A cp w' :=
  ⟨h.hj, h.eq, h.o.on hb, RowG.below (It := ItV) (fun h => ItV.mono h) h.row hb, h.eg, h.below.trans (hb.mono h.below.size)⟩
/-- The patch's block, where the row has grown. -/
theorem MoreRow.grown (h : MoreRow W g20 La key j acc A cp wr) {wx w6 : World} (hb : Below wr.heap.size wr wx) (hg : wx.grownBy w6 (Value.slice A acc.length cp).ownBlock) : Blk w6 g20 28 (moreC A acc.length cp) :=
  (h.o.on hb).grown hg (fun k hk => by
    have := own_new (b := g20 + 1) (fun ad e => (h.row.le.2.2.2 ad e).1) hk
    omega)
theorem MoreRow.next (h : MoreRow W g20 La key j acc A cp wr) (hlt : j < La.length) {z : Vl} (hz : z = moreOf key La[j]) {flat : List Value} (hown : wr.ownsRow (g20 + 1) 28 8 (.slice A acc.length cp) acc.length flat) (hone : ∀ u ∈ flat, u.oneCell' = true)
    (hel : ∀ i a, acc[i]? = some a → ∃ cs, ItV (wr.on (OffS (fun b => b < g20) (g20 + 1) A)) a cs ∧ ∀ (j : Nat) u, cs[j]? = some u → flat[i * 8 + j]? = some u)
    {wx w6 : World} (hb : Below wr.heap.size wr wx) {cs : Array Value} (ha : z.In (wx.on fun b => b < g20 ∨ wr.heap.size ≤ b) (.agg cs)) (hcs : ∀ u ∈ cs.toList, u.oneCell' = true) {g cap : Nat}
    (h6 : w6.ownsRow (g20 + 1) 28 8 (.slice (some ⟨g, 0, none⟩) (acc.length + 1) cap) (acc.length + 1) (flat ++ cs.toList)) (hg : wx.grownBy w6 (Value.slice A acc.length cp).ownBlock)
    (hat : (Value.slice A acc.length cp).ownBlock = some g ∨ g = wx.heap.size) : MoreRow W g20 La key (j + 1) (acc ++ [z]) (some ⟨g, 0, none⟩) cap (w6.setCell ⟨g20, 6, none⟩ (.slice (some ⟨g, 0, none⟩) (acc.length + 1) cap)) := by
  have hrl := h.row.le
  have hA : ∀ ad, A = some ad → g20 + 1 ≤ ad.block := fun ad ha => (hrl.2.2.2 ad ha).1
  have hB := h.below.trans (hb.mono h.below.size)
  have hol := h.o.lt
  have heg := h.eg
  have hon : ∀ k, (Value.slice A acc.length cp).ownBlock = some k → g20 + 1 ≤ k := fun k hk => own_new hA hk
  have hOff : Cl.le (wx.on fun b => b < g20 ∨ wr.heap.size ≤ b) (wx.on (OffS (fun b => b < g20) (g20 + 1) A)) := on_sub fun b hb' => by
    rcases hb' with k | k
    · exact ⟨.inl k, fun ad e => by have := hA ad e; omega⟩
    · exact ⟨.inr (by omega), fun ad e => by have := (hrl.2.2.2 ad e).2; omega⟩
  have hrow : RowG ItV 28 8 (fun b => b < g20) w6 (g20 + 1) (some ⟨g, 0, none⟩) cap (acc ++ [z]) :=
    RowG.push (It := ItV) (fun h => ItV.mono h) hown hone hel hb (a := z) (cs := cs.toList) (ItV.mono hOff (by show z.In _ (.agg cs.toList.toArray); simpa using ha)) hcs h6 hg hat
  refine ⟨hlt, by rw [List.take_succ_eq_append_getElem hlt, List.map_append, ← h.eq, hz]; rfl, ?_, ?_, heg, ?_⟩
  · have := Blk.setL (l := [.int .i64 4, .bool false, .bool false, .string ⟨#[]⟩, .int .i64 0, .string ⟨#[]⟩, .slice A acc.length cp, .slice none 0 0]) (h.grown hb hg) 6 (.slice (some ⟨g, 0, none⟩) (acc.length + 1) cap)
    rw [List.length_append]
    exact this
  · exact RowG.keep (It := ItV) (fun h => ItV.mono h) hrow (fun b hb' _ => heap_setCell _ _ _ _ (by omega))
  · exact (hB.grown hg hB.size (fun k hk => by have := hon k hk; omega)).setCell (p := ⟨g20, 6, none⟩) (by show W.heap.size ≤ g20; omega) _
end
/-- A list of values that lies in memory, as an array. -/
theorem arr_in {c : Cl} {A : Option Addr} {l : List Vl} {e n : Nat} (h : SlL c A l) (hn : n = l.length) (h1 : l.length ≤ e) (h2 : e ≤ maxLen) : (Vl.mk 4 false Nm.Num.zero [] l []).In c (.agg (moreC A n e)) := by
  subst hn
  exact In.mk' (k := 4) (b := false) (n := Nm.Num.zero) (s := []) h (slM_nil c none) h1 h2 (Nat.le_refl _) (Nat.zero_le _)

end Go.Proofs.YtkhplaknogalgaaDoor

