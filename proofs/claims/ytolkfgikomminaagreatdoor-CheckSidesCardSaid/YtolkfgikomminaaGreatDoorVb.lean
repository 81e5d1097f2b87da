/- Values in memory: how a value's tree lies in the world's cells. -/
import Derived.Test.YtolkfgikomminaaGreatDoorMc
import Derived.Below
import Derived.Lib.Hide
import Derived.Laws.OwnMore
import Derived.Laws.Rows
import Derived.Deep.MidRow
namespace Go.Proofs.YtolkfgikomminaaGreatDoor
open Go.RowKit Js

abbrev vlV (k : Int) (b : Bool) (neg : Bool) (dg : List UInt8) (ex : Int) (s : List UInt8) (lv mv : Value) : Value :=
 .agg #[.int .i64 k, .bool b, .bool neg, .string ⟨dg.toArray⟩, .int .i64 ex, .string ⟨s.toArray⟩, lv, mv]

abbrev Cl := Addr → Option Value
open Classical in
noncomputable def _root_.Go.World.on (w : World) (S : Nat → Prop) : Cl := fun p => if S p.block then w.cell? p else none
theorem on_some {w : World} {S : Nat → Prop} {p : Addr} {u : Value} : w.on S p = some u ↔ S p.block ∧ w.cell? p = some u := by
 unfold World.on; split
 ·rename_i h; exact ⟨fun k => ⟨h, k⟩, fun k => k.2⟩
 ·rename_i h; exact ⟨(fun k => by cases k), fun k => absurd k.1 h⟩

def CellsAt (c : Cl) (g o : Nat) (x : Value) : Prop := ∀ (j : Nat) u, x.cells[j]? = some u → c ⟨g, o + j, none⟩ = some u

mutual
def _root_.Go.Proofs.YtolkfgikomminaaGreatDoor.Js.Vl.In (c : Cl) : Vl → Value → Prop
 | .mk k b n s l m, x => ∃ (A : Option Addr) (e : Nat) (B : Option Addr) (d : Nat), x = vlV k b n.neg n.digits n.exp s (.slice A l.length e) (.slice B m.length d) ∧
   l.length ≤ e ∧ e ≤ maxLen ∧ m.length ≤ d ∧ d ≤ maxLen ∧ (0 < l.length → ∃ g o, A = some ⟨g, o, none⟩ ∧ LIn c l g o) ∧ (0 < m.length → ∃ g o, B = some ⟨g, o, none⟩ ∧ MIn c m g o)
def LIn (c : Cl) : List Vl → Nat → Nat → Prop
 | [], _, _ => True
 | v :: l, g, o => (∃ x, v.In c x ∧ CellsAt c g o x) ∧ LIn c l g (o + 8)
def MIn (c : Cl) : List Js.Mem → Nat → Nat → Prop
 | [], _, _ => True
 | p :: m, g, o => PIn c p g o ∧ MIn c m g (o + 9)
def PIn (c : Cl) : Js.Mem → Nat → Nat → Prop
 | (k, v), g, o => c ⟨g, o, none⟩ = some (.string ⟨k.toArray⟩) ∧ ∃ x, v.In c x ∧ CellsAt c g (o + 1) x
end

def Cl.le (c c' : Cl) : Prop := ∀ p u, c p = some u → c' p = some u

theorem CellsAt.keep {c c' : Cl} (h : c.le c') {g o : Nat} {x : Value} (hx : CellsAt c g o x) : CellsAt c' g o x := fun j u hu => h _ _ (hx j u hu)

theorem In.keep {c c' : Cl} (h : c.le c') (v : Vl) : ∀ x, v.In c x → v.In c' x := by
 induction v using Vl.ind with
 | h k b n s l m hl hm =>
  have el : ∀ g o, LIn c l g o → LIn c' l g o := by
   clear hm
   induction l with
   | nil => intro g o _; simp [LIn]
   | cons v l ih =>
    intro g o hi
    simp only [LIn] at hi ⊢
    obtain ⟨⟨x, h1, h2⟩, h3⟩ := hi
    exact ⟨⟨x, hl v (by simp) x h1, h2.keep h⟩, ih (fun x hx => hl x (by simp [hx])) _ _ h3⟩
  have em : ∀ g o, MIn c m g o → MIn c' m g o := by
   clear hl el
   induction m with
   | nil => intro g o _; simp [MIn]
   | cons p m ih =>
    intro g o hi
    obtain ⟨key, v⟩ := p
    simp only [MIn, PIn] at hi ⊢
    obtain ⟨⟨h0, x, h1, h2⟩, h3⟩ := hi
    exact ⟨⟨h _ _ h0, x, hm (key, v) (by simp) x h1, h2.keep h⟩, ih (fun x hx => hm x (by simp [hx])) _ _ h3⟩
  intro x hi
  simp only [Vl.In] at hi ⊢
  obtain ⟨A, e, B, d, h1, h2, h3, h4, h5, h6, h7⟩ := hi
  refine ⟨A, e, B, d, h1, h2, h3, h4, h5, fun h => ?_, fun h => ?_⟩
  ·obtain ⟨g, o, e1, e2⟩ := h6 h
   exact ⟨g, o, e1, el _ _ e2⟩
  ·obtain ⟨g, o, e1, e2⟩ := h7 h
   exact ⟨g, o, e1, em _ _ e2⟩

theorem LIn.get {c : Cl} : ∀ {l : List Vl} {g o k : Nat} {v : Vl}, LIn c l g o → l[k]? = some v → ∃ x, v.In c x ∧ CellsAt c g (o + k * 8) x
 | [], _, _, _, _, _, h => by simp at h
 | v :: l, g, o, 0, v', hi, h => by
  simp only [LIn] at hi
  simp at h; subst h
  exact hi.1
 | v :: l, g, o, k + 1, v', hi, h => by
  simp only [LIn] at hi
  obtain ⟨x, h1, h2⟩ := LIn.get hi.2 (k := k) (by simpa using h)
  exact ⟨x, h1, by rw [show o + (k + 1) * 8 = o + 8 + k * 8 by omega]; exact h2⟩
theorem MIn.get {c : Cl} : ∀ {m : List Js.Mem} {g o k : Nat} {p : Js.Mem}, MIn c m g o → m[k]? = some p → c ⟨g, o + k * 9, none⟩ = some (.string ⟨p.1.toArray⟩) ∧ ∃ x, p.2.In c x ∧ CellsAt c g (o + k * 9 + 1) x
 | [], _, _, _, _, _, h => by simp at h
 | p :: m, g, o, 0, p', hi, h => by
  obtain ⟨key, v⟩ := p
  simp only [MIn, PIn] at hi
  simp at h; subst h
  exact hi.1
 | p :: m, g, o, k + 1, p', hi, h => by
  simp only [MIn] at hi
  have := MIn.get hi.2 (k := k) (by simpa using h)
  rw [show o + (k + 1) * 9 = o + 9 + k * 9 by omega]
  exact this
theorem LIn.of {c : Cl} : ∀ {l : List Vl} {g o : Nat}, (∀ k v, l[k]? = some v → ∃ x, v.In c x ∧ CellsAt c g (o + k * 8) x) → LIn c l g o
 | [], _, _, _ => by simp [LIn]
 | v :: l, g, o, h => by
  simp only [LIn]
  refine ⟨by simpa using h 0 v rfl, LIn.of fun k v' hk => ?_⟩
  have := h (k + 1) v' (by simpa using hk)
  rw [show o + (k + 1) * 8 = o + 8 + k * 8 by omega] at this
  exact this
theorem MIn.of {c : Cl} : ∀ {m : List Js.Mem} {g o : Nat}, (∀ k p, m[k]? = some p → c ⟨g, o + k * 9, none⟩ = some (.string ⟨p.1.toArray⟩) ∧ ∃ x, p.2.In c x ∧ CellsAt c g (o + k * 9 + 1) x) → MIn c m g o
 | [], _, _, _ => by simp [MIn]
 | p :: m, g, o, h => by
  simp only [MIn]
  obtain ⟨key, v⟩ := p
  refine ⟨by simpa [PIn] using h 0 (key, v) rfl, MIn.of fun k p' hk => ?_⟩
  have := h (k + 1) p' (by simpa using hk)
  rw [show o + (k + 1) * 9 = o + 9 + k * 9 by omega] at this
  exact this

theorem In.form {c : Cl} {k : Int} {b : Bool} {n : Nm.Num} {s : List UInt8} {l : List Vl} {m : List Js.Mem} {x : Value} (h : (Vl.mk k b n s l m).In c x) :
  ∃ (A : Option Addr) (e : Nat) (B : Option Addr) (d : Nat), x = vlV k b n.neg n.digits n.exp s (.slice A l.length e) (.slice B m.length d) ∧
   l.length ≤ e ∧ e ≤ maxLen ∧ m.length ≤ d ∧ d ≤ maxLen ∧
   (∀ i v, l[i]? = some v → ∃ g o y, A = some ⟨g, o, none⟩ ∧ v.In c y ∧ CellsAt c g (o + i * 8) y) ∧
   (∀ i p, m[i]? = some p → ∃ g o y, B = some ⟨g, o, none⟩ ∧ p.2.In c y ∧ c ⟨g, o + i * 9, none⟩ = some (.string ⟨p.1.toArray⟩) ∧ CellsAt c g (o + i * 9 + 1) y) := by
 simp only [Vl.In] at h
 obtain ⟨A, e, B, d, h1, h2, h3, h4, h5, h6, h7⟩ := h
 refine ⟨A, e, B, d, h1, h2, h3, h4, h5, fun i v hi => ?_, fun i p hi => ?_⟩
 ·obtain ⟨g, o, e1, e2⟩ := h6 (by have := (List.getElem?_eq_some_iff.1 hi).1; omega)
  obtain ⟨y, q1, q2⟩ := e2.get hi
  exact ⟨g, o, y, e1, q1, q2⟩
 ·obtain ⟨g, o, e1, e2⟩ := h7 (by have := (List.getElem?_eq_some_iff.1 hi).1; omega)
  obtain ⟨q0, y, q1, q2⟩ := e2.get hi
  exact ⟨g, o, y, e1, q1, q0, q2⟩

theorem In.cells {c : Cl} {v : Vl} {x : Value} (h : v.In c x) : ∃ (k : Int) (b neg : Bool) (dg : List UInt8) (ex : Int) (s : List UInt8) (A : Option Addr) (n e : Nat) (B : Option Addr) (m d : Nat), x = vlV k b neg dg ex s (.slice A n e) (.slice B m d) := by
 obtain ⟨k, b, n, s, l, m⟩ := v
 obtain ⟨A, e, B, d, h1, _⟩ := In.form h
 exact ⟨_, _, _, _, _, _, _, _, _, _, _, _, h1⟩

theorem CellsAt.eight {c : Cl} {g o : Nat} {c0 c1 c2 c3 c4 c5 c6 c7 : Value} (h : CellsAt c g o (.agg #[c0, c1, c2, c3, c4, c5, c6, c7])) :
  c ⟨g, o, none⟩ = some c0 ∧ c ⟨g, o + 1, none⟩ = some c1 ∧ c ⟨g, o + 2, none⟩ = some c2 ∧ c ⟨g, o + 3, none⟩ = some c3 ∧
  c ⟨g, o + 4, none⟩ = some c4 ∧ c ⟨g, o + 5, none⟩ = some c5 ∧ c ⟨g, o + 6, none⟩ = some c6 ∧ c ⟨g, o + 7, none⟩ = some c7 :=
 ⟨h 0 _ rfl, h 1 _ rfl, h 2 _ rfl, h 3 _ rfl, h 4 _ rfl, h 5 _ rfl, h 6 _ rfl, h 7 _ rfl⟩

theorem le_below {w w' : World} (h : Below w.heap.size w w') : Cl.le w.cell? w'.cell? := fun p u hp => by
 rw [h.cell (World.block_lt_of_cell? w _ hp)]; exact hp
theorem le_alloc (w : World) (o : Obj) : Cl.le w.cell? (w.alloc o).cell? := le_below ((Below.refl _ _).alloc (Nat.le_refl _) o)
theorem le_on (w : World) (S : Nat → Prop) : Cl.le (w.on S) w.cell? := fun _ _ hp => (on_some.1 hp).2
theorem Cl.le.trans {a b c : Cl} (h : a.le b) (k : b.le c) : a.le c := fun p u hp => k p u (h p u hp)
theorem Cl.le.refl (a : Cl) : a.le a := fun _ _ h => h

def Blk (w : World) (g : Nat) (t : TypeId) (cs : Array Value) : Prop := w.heap[g]? = some (.cells cs t (0, 0))
section
variable {w w' : World} {g : Nat} {t : TypeId} {cs : Array Value}
theorem Blk.lt (h : Blk w g t cs) : g < w.heap.size := by
 rcases Nat.lt_or_ge g w.heap.size with hlt | hge
 ·exact hlt
 ·unfold Blk at h; rw [Array.getElem?_eq_none hge] at h; cases h
theorem Blk.cell (h : Blk w g t cs) (i : Nat) : w.cell? ⟨g, i, none⟩ = cs[i]? := cell_of_row w g i cs t (0, 0) h
theorem Blk.frozen (h : Blk w g t cs) (i : Nat) : w.frozen? ⟨g, i, none⟩ = false := frozen_of_row w g i cs t h
theorem Blk.new (w : World) (t : TypeId) (cs : Array Value) : Blk (w.alloc (.cells cs t)) w.heap.size t cs := heap_alloc_new w _
theorem Blk.new2 (w : World) (o : Obj) (t : TypeId) (cs : Array Value) : Blk ((w.alloc o).alloc (.cells cs t)) (w.heap.size + 1) t cs := by
 have := heap_alloc_new (w.alloc o) (.cells cs t)
 rwa [World.size_alloc] at this
theorem Blk.alloc (h : Blk w g t cs) (o : Obj) : Blk (w.alloc o) g t cs := (Below.heap_alloc w o g h.lt).trans h
theorem Blk.below {B : Nat} (h : Blk w g t cs) (hb : Below B w w') (hg : g < B) : Blk w' g t cs := (hb.block g hg).trans h
theorem Blk.on (h : Blk w g t cs) (hb : Below w.heap.size w w') : Blk w' g t cs := h.below hb h.lt
theorem Blk.eight {c0 c1 c2 c3 c4 c5 c6 c7 : Value} (h : Blk w g t #[c0, c1, c2, c3, c4, c5, c6, c7]) :
  w.cell? ⟨g, 0, none⟩ = some c0 ∧ w.cell? ⟨g, 1, none⟩ = some c1 ∧ w.cell? ⟨g, 2, none⟩ = some c2 ∧ w.cell? ⟨g, 3, none⟩ = some c3 ∧ w.cell? ⟨g, 4, none⟩ = some c4 ∧ w.cell? ⟨g, 5, none⟩ = some c5 ∧ w.cell? ⟨g, 6, none⟩ = some c6 ∧ w.cell? ⟨g, 7, none⟩ = some c7 :=
 ⟨h.cell 0, h.cell 1, h.cell 2, h.cell 3, h.cell 4, h.cell 5, h.cell 6, h.cell 7⟩
end

theorem Blk.set {w : World} {g : Nat} {t : TypeId} {cs : Array Value} (h : Blk w g t cs) (i : Nat) (u : Value) : Blk (w.setCell ⟨g, i, none⟩ u) g t (cs.setIfInBounds i u) := by
 unfold Blk at h ⊢
 simp [World.setCell, Array.getElem?_modify, h]
theorem Blk.setL {w : World} {g : Nat} {t : TypeId} {l : List Value} (h : Blk w g t l.toArray) (i : Nat) (u : Value) : Blk (w.setCell ⟨g, i, none⟩ u) g t (l.set i u).toArray := by
 have := h.set i u
 rwa [List.setIfInBounds_toArray] at this
abbrev set8 (w : World) (g : Nat) (v0 v1 v2 v3 v4 v5 v6 v7 : Value) : World :=
 (((((((w.setCell ⟨g, 0, none⟩ v0).setCell ⟨g, 1, none⟩ v1).setCell ⟨g, 2, none⟩ v2).setCell ⟨g, 3, none⟩ v3).setCell ⟨g, 4, none⟩ v4).setCell ⟨g, 5, none⟩ v5).setCell ⟨g, 6, none⟩ v6).setCell ⟨g, 7, none⟩ v7
theorem Blk.set8 {w : World} {g : Nat} {t : TypeId} {c0 c1 c2 c3 c4 c5 c6 c7 : Value} (h : Blk w g t #[c0, c1, c2, c3, c4, c5, c6, c7]) (v0 v1 v2 v3 v4 v5 v6 v7 : Value) :
  Blk (set8 w g v0 v1 v2 v3 v4 v5 v6 v7) g t #[v0, v1, v2, v3, v4, v5, v6, v7] :=
 have h0 : Blk _ g t [v0, c1, c2, c3, c4, c5, c6, c7].toArray := Blk.setL (l := [c0, c1, c2, c3, c4, c5, c6, c7]) h 0 v0
 have h1 : Blk _ g t [v0, v1, c2, c3, c4, c5, c6, c7].toArray := h0.setL 1 v1
 have h2 : Blk _ g t [v0, v1, v2, c3, c4, c5, c6, c7].toArray := h1.setL 2 v2
 have h3 : Blk _ g t [v0, v1, v2, v3, c4, c5, c6, c7].toArray := h2.setL 3 v3
 have h4 : Blk _ g t [v0, v1, v2, v3, v4, c5, c6, c7].toArray := h3.setL 4 v4
 have h5 : Blk _ g t [v0, v1, v2, v3, v4, v5, c6, c7].toArray := h4.setL 5 v5
 have h6 : Blk _ g t [v0, v1, v2, v3, v4, v5, v6, c7].toArray := h5.setL 6 v6
 h6.setL 7 v7
theorem below_set8 {B : Nat} {a w : World} (h : Below B a w) {g : Nat} (hg : B ≤ g) (v0 v1 v2 v3 v4 v5 v6 v7 : Value) : Below B a (set8 w g v0 v1 v2 v3 v4 v5 v6 v7) :=
 (((((((h.setCell (p := ⟨g, 0, none⟩) hg v0).setCell (p := ⟨g, 1, none⟩) hg v1).setCell (p := ⟨g, 2, none⟩) hg v2).setCell (p := ⟨g, 3, none⟩) hg v3).setCell (p := ⟨g, 4, none⟩) hg v4).setCell (p := ⟨g, 5, none⟩) hg v5).setCell (p := ⟨g, 6, none⟩) hg v6).setCell (p := ⟨g, 7, none⟩) hg v7
theorem In.set8 {B : Nat} {w w' : World} {v : Vl} {x : Value} (h : v.In w.cell? x) (hb : Below w.heap.size w w') (_hB : B ≤ w.heap.size) : v.In w'.cell? x := In.keep (fun p u hp => by rw [hb.cell (World.block_lt_of_cell? w _ hp)]; exact hp) _ _ h

theorem results_row {fn : Func} {p u : Tmp} {ty : TypeId} (h : fn.results = #[.cell p ty, .tmp u]) (tmps : Array Value) (P : Program) (w : World) {g : Nat} {t : TypeId} {l : List Value} {d : TypeDesc}
  (hp : tmps.getD p undef = .pointer (some ⟨g, 0, none⟩)) (hg : Blk w g t l.toArray) (hu : P.underlying ty = some d) (hd : d.isRow = true) (hi : (P.info? ty).map (·.size) = some l.length) :
  (results fn tmps).run P w = .ok (.tuple #[.agg l.toArray, tmps.getD u undef]) w := by
 have hl : (loadVar ty ⟨g, 0, none⟩).run P w = .ok (.agg l.toArray) w := run_loadVar_mid w g 0 ty l d (fun j v hv => by rw [Nat.zero_add, hg.cell j]; simpa using hv) hu hd hi
 simp only [results, h]
 have hp' : tmps[p]?.getD undef = .pointer (some ⟨g, 0, none⟩) := by simpa using hp
 simp [Result.andThen, hp', asAddr, hl]

def SlL (c : Cl) (A : Option Addr) (l : List Vl) : Prop := ∀ i v, l[i]? = some v → ∃ g o y, A = some ⟨g, o, none⟩ ∧ v.In c y ∧ CellsAt c g (o + i * 8) y
def SlM (c : Cl) (A : Option Addr) (m : List Js.Mem) : Prop := ∀ i p, m[i]? = some p → ∃ g o y, A = some ⟨g, o, none⟩ ∧ p.2.In c y ∧ c ⟨g, o + i * 9, none⟩ = some (.string ⟨p.1.toArray⟩) ∧ CellsAt c g (o + i * 9 + 1) y
theorem SlL.keep {c c' : Cl} (h : c.le c') {A : Option Addr} {l : List Vl} (hs : SlL c A l) : SlL c' A l := fun i v hi => by
 obtain ⟨g, o, y, h1, h2, h3⟩ := hs i v hi
 exact ⟨g, o, y, h1, In.keep h _ _ h2, h3.keep h⟩
theorem SlM.keep {c c' : Cl} (h : c.le c') {A : Option Addr} {m : List Js.Mem} (hs : SlM c A m) : SlM c' A m := fun i v hi => by
 obtain ⟨g, o, y, h1, h2, h3, h4⟩ := hs i v hi
 exact ⟨g, o, y, h1, In.keep h _ _ h2, h _ _ h3, h4.keep h⟩

def Boxed (w : World) (k : Int) (b neg : Bool) (dg : List UInt8) (ex : Int) (s : List UInt8) (lv mv : Value) (w' : World) : Prop :=
 Below (w.heap.size + 1) (w.alloc (.cells #[.int .i64 k, .bool b, .bool neg, .string ⟨dg.toArray⟩, .int .i64 ex, .string ⟨s.toArray⟩, lv, mv] 31)) w'

section
variable {w w' : World} {k : Int} {b neg : Bool} {dg : List UInt8} {ex : Int} {s : List UInt8} {lv mv : Value}
theorem Boxed.cells (h : Boxed w k b neg dg ex s lv mv w') :
  w'.cell? ⟨w.heap.size, 0, none⟩ = some (.int .i64 k) ∧ w'.cell? ⟨w.heap.size, 1, none⟩ = some (.bool b) ∧ w'.cell? ⟨w.heap.size, 2, none⟩ = some (.bool neg) ∧ w'.cell? ⟨w.heap.size, 3, none⟩ = some (.string ⟨dg.toArray⟩) ∧
  w'.cell? ⟨w.heap.size, 4, none⟩ = some (.int .i64 ex) ∧ w'.cell? ⟨w.heap.size, 5, none⟩ = some (.string ⟨s.toArray⟩) ∧ w'.cell? ⟨w.heap.size, 6, none⟩ = some lv ∧ w'.cell? ⟨w.heap.size, 7, none⟩ = some mv := by
 have hc : ∀ j, w'.cell? ⟨w.heap.size, j, none⟩ = _ := fun j => (Below.cell h (p := ⟨w.heap.size, j, none⟩) (by simp)).trans (World.cell?_alloc_new _ _ _ _)
 exact ⟨hc 0, hc 1, hc 2, hc 3, hc 4, hc 5, hc 6, hc 7⟩
theorem Boxed.below (h : Boxed w k b neg dg ex s lv mv w') : Below w.heap.size w w' := ((Below.refl _ _).alloc (Nat.le_refl _) _).trans (Below.mono h (by simp))
theorem Boxed.le (h : Boxed w k b neg dg ex s lv mv w') : Cl.le w.cell? w'.cell? := le_below h.below
theorem Boxed.next {w'' : World} (h : Boxed w k b neg dg ex s lv mv w') (h' : Below w'.heap.size w' w'') : Boxed w k b neg dg ex s lv mv w'' :=
 Below.trans h (h'.mono (by have := Below.size h; simpa using this))
theorem Boxed.start : Boxed w k b neg dg ex s lv mv (w.alloc (.cells #[.int .i64 k, .bool b, .bool neg, .string ⟨dg.toArray⟩, .int .i64 ex, .string ⟨s.toArray⟩, lv, mv] 31)) := Below.refl _ _
end

end Go.Proofs.YtolkfgikomminaaGreatDoor

