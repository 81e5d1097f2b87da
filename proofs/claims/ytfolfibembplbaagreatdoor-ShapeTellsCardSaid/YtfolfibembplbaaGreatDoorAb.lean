/- Ab: Ab Ah Ac Ad, in one text. -/
import Derived.Test.YtfolfibembplbaaGreatDoorAa
import Derived.Test.YtfolfibembplbaaGreatDoorKa
import Derived.Test.YtfolfibembplbaaGreatDoorKf
import Derived.Test.YtfolfibembplbaaGreatDoorJd
import Derived.Laws.MakeOwn
/- Operations in memory; the walks of layer 8 (patch): the program's text, pointer, numberOf. -/
namespace Go.Proofs.YtfolfibembplbaaGreatDoor
open Go.RowKit Pt Js Oq
/-- What pointer tells. -/
def PtrOfPost (r : Option (List (List UInt8))) (w : World) (e : Ending) (w' : World) : Prop :=
  ∃ (A : Option Addr) (cp : Nat), e = .returned (.tuple #[.slice A (r.getD []).length cp, .bool r.isSome]) ∧ Strs (w'.on (w.heap.size ≤ ·)) A (r.getD []) ∧ (r.getD []).length ≤ cp ∧ cp ≤ maxLen ∧ (r.getD []).length ≤ 100000 ∧ Below w.heap.size w w'

end Go.Proofs.YtfolfibembplbaaGreatDoor

/- Operations in memory; what the walks of layer 8 (patch) hold of them. -/
namespace Go.Proofs.YtfolfibembplbaaGreatDoor
open Go.RowKit Pt Js Oq

/-- An operation as it stands in a slot. -/
abbrev opV (op : Int) (A : Option Addr) (n e : Nat) (F : Option Addr) (m d : Nat) (k : Int) (b neg : Bool) (dg : List UInt8) (ex : Int) (s : List UInt8) (lv mv : Value) : Value :=
  .agg #[.int .i64 op, .slice A n e, .slice F m d, .int .i64 k, .bool b, .bool neg, .string ⟨dg.toArray⟩, .int .i64 ex, .string ⟨s.toArray⟩, lv, mv]
/-- An operation lies in memory, and stands so in a slot. -/
def _root_.Go.Proofs.YtfolfibembplbaaGreatDoor.Oq.Opn.In (c : Cl) (o : Opn) (x : Value) : Prop :=
  ∃ (A : Option Addr) (e : Nat) (F : Option Addr) (d : Nat) (k : Int) (b neg : Bool) (dg : List UInt8) (ex : Int) (s : List UInt8) (A1 : Option Addr) (l1 p1 : Nat) (B1 : Option Addr) (m1 d1 : Nat),
    x = opV o.op A o.path.length e F o.src.length d k b neg dg ex s (.slice A1 l1 p1) (.slice B1 m1 d1) ∧ Strs c A o.path ∧ o.path.length ≤ e ∧ e ≤ maxLen ∧ Strs c F o.src ∧ o.src.length ≤ d ∧ d ≤ maxLen ∧
    o.v.In c (vlV k b neg dg ex s (.slice A1 l1 p1) (.slice B1 m1 d1))
theorem OIn.keep {c c' : Cl} (h : c.le c') {o : Opn} {x : Value} (hx : o.In c x) : o.In c' x := by
  obtain ⟨A, e, F, d, k, b, neg, dg, ex, s, A1, l1, p1, B1, m1, d1, rfl, h1, h2, h3, h4, h5, h6, h7⟩ := hx
  exact ⟨A, e, F, d, k, b, neg, dg, ex, s, A1, l1, p1, B1, m1, d1, rfl, h1.keep h, h2, h3, h4.keep h, h5, h6, In.keep h _ _ h7⟩
/-- What an operation's slot is. -/
theorem OIn.cells {c : Cl} {o : Opn} {x : Value} (hx : o.In c x) : ∃ (op : Int) (A : Option Addr) (n e : Nat) (F : Option Addr) (m d : Nat) (k : Int) (b neg : Bool) (dg : List UInt8) (ex : Int) (s : List UInt8) (A1 : Option Addr) (l1 p1 : Nat) (B1 : Option Addr) (m1 d1 : Nat),
    x = opV op A n e F m d k b neg dg ex s (.slice A1 l1 p1) (.slice B1 m1 d1) := by
  obtain ⟨A, e, F, d, k, b, neg, dg, ex, s, A1, l1, p1, B1, m1, d1, rfl, _⟩ := hx
  exact ⟨_, _, _, _, _, _, _, _, _, _, _, _, _, _, _, _, _, _, _, rfl⟩
/-- An operation of parts that lie in memory. -/
theorem OIn.mk {c : Cl} {op : Nat} {p f : List (List UInt8)} {u : Vl} {A F : Option Addr} {e d : Nat} {k : Int} {b neg : Bool} {dg : List UInt8} {ex : Int} {s : List UInt8} {A1 : Option Addr} {l1 p1 : Nat} {B1 : Option Addr} {m1 d1 : Nat}
    (h1 : Strs c A p) (h2 : p.length ≤ e) (h3 : e ≤ maxLen) (h4 : Strs c F f) (h5 : f.length ≤ d) (h6 : d ≤ maxLen) (h7 : u.In c (vlV k b neg dg ex s (.slice A1 l1 p1) (.slice B1 m1 d1))) :
    (Opn.mk op p f u).In c (opV op A p.length e F f.length d k b neg dg ex s (.slice A1 l1 p1) (.slice B1 m1 d1)) :=
  ⟨A, e, F, d, k, b, neg, dg, ex, s, A1, l1, p1, B1, m1, d1, rfl, h1, h2, h3, h4, h5, h6, h7⟩
abbrev zeroO : Array Value := #[.int .i64 0, .slice none 0 0, .slice none 0 0, .int .i64 0, .bool false, .bool false, .string ⟨#[]⟩, .int .i64 0, .string ⟨#[]⟩, .slice none 0 0, .slice none 0 0]
theorem strs_nil (c : Cl) (A : Option Addr) : Strs c A [] := fun i n h => by simp at h
theorem zeroO_in (c : Cl) : Opn.zero.In c (.agg zeroO) :=
  OIn.mk (op := 0) (p := []) (f := []) (u := Ps.mkN) (strs_nil _ _) (Nat.le_refl _) (Nat.zero_le _) (strs_nil _ _) (Nat.le_refl _) (Nat.zero_le _) (zero_in c)

/-- Eleven parts are stored, one behind the other. -/
abbrev set11 (w : World) (g : Nat) (v0 v1 v2 v3 v4 v5 v6 v7 v8 v9 v10 : Value) : World :=
  ((((((((((w.setCell ⟨g, 0, none⟩ v0).setCell ⟨g, 1, none⟩ v1).setCell ⟨g, 2, none⟩ v2).setCell ⟨g, 3, none⟩ v3).setCell ⟨g, 4, none⟩ v4).setCell ⟨g, 5, none⟩ v5).setCell ⟨g, 6, none⟩ v6).setCell ⟨g, 7, none⟩ v7).setCell ⟨g, 8, none⟩ v8).setCell ⟨g, 9, none⟩ v9).setCell ⟨g, 10, none⟩ v10
theorem Blk.set11 {w : World} {g : Nat} {t : TypeId} {c0 c1 c2 c3 c4 c5 c6 c7 c8 c9 c10 : Value} (h : Blk w g t #[c0, c1, c2, c3, c4, c5, c6, c7, c8, c9, c10]) (v0 v1 v2 v3 v4 v5 v6 v7 v8 v9 v10 : Value) :
    Blk (set11 w g v0 v1 v2 v3 v4 v5 v6 v7 v8 v9 v10) g t #[v0, v1, v2, v3, v4, v5, v6, v7, v8, v9, v10] :=
  have h0 : Blk _ g t [v0, c1, c2, c3, c4, c5, c6, c7, c8, c9, c10].toArray := Blk.setL (l := [c0, c1, c2, c3, c4, c5, c6, c7, c8, c9, c10]) h 0 v0
  have h1 : Blk _ g t [v0, v1, c2, c3, c4, c5, c6, c7, c8, c9, c10].toArray := h0.setL 1 v1
  have h2 : Blk _ g t [v0, v1, v2, c3, c4, c5, c6, c7, c8, c9, c10].toArray := h1.setL 2 v2
  have h3 : Blk _ g t [v0, v1, v2, v3, c4, c5, c6, c7, c8, c9, c10].toArray := h2.setL 3 v3
  have h4 : Blk _ g t [v0, v1, v2, v3, v4, c5, c6, c7, c8, c9, c10].toArray := h3.setL 4 v4
  have h5 : Blk _ g t [v0, v1, v2, v3, v4, v5, c6, c7, c8, c9, c10].toArray := h4.setL 5 v5
  have h6 : Blk _ g t [v0, v1, v2, v3, v4, v5, v6, c7, c8, c9, c10].toArray := h5.setL 6 v6
  have h7 : Blk _ g t [v0, v1, v2, v3, v4, v5, v6, v7, c8, c9, c10].toArray := h6.setL 7 v7
  have h8 : Blk _ g t [v0, v1, v2, v3, v4, v5, v6, v7, v8, c9, c10].toArray := h7.setL 8 v8
  have h9 : Blk _ g t [v0, v1, v2, v3, v4, v5, v6, v7, v8, v9, c10].toArray := h8.setL 9 v9
  h9.setL 10 v10
theorem heap_set11 (w : World) (g : Nat) (v0 v1 v2 v3 v4 v5 v6 v7 v8 v9 v10 : Value) {b : Nat} (hb : b ≠ g) : (set11 w g v0 v1 v2 v3 v4 v5 v6 v7 v8 v9 v10).heap[b]? = w.heap[b]? := by
  simp only [set11, heap_setCell _ _ _ _ hb]
theorem below_set11 {B : Nat} {a w : World} (h : Below B a w) {g : Nat} (hg : B ≤ g) (v0 v1 v2 v3 v4 v5 v6 v7 v8 v9 v10 : Value) : Below B a (set11 w g v0 v1 v2 v3 v4 v5 v6 v7 v8 v9 v10) :=
  ((((((((((h.setCell (p := ⟨g, 0, none⟩) hg v0).setCell (p := ⟨g, 1, none⟩) hg v1).setCell (p := ⟨g, 2, none⟩) hg v2).setCell (p := ⟨g, 3, none⟩) hg v3).setCell (p := ⟨g, 4, none⟩) hg v4).setCell (p := ⟨g, 5, none⟩) hg v5).setCell (p := ⟨g, 6, none⟩) hg v6).setCell (p := ⟨g, 7, none⟩) hg v7).setCell (p := ⟨g, 8, none⟩) hg v8).setCell (p := ⟨g, 9, none⟩) hg v9).setCell (p := ⟨g, 10, none⟩) hg v10
theorem Blk.eleven {w : World} {g : Nat} {t : TypeId} {c0 c1 c2 c3 c4 c5 c6 c7 c8 c9 c10 : Value} (h : Blk w g t #[c0, c1, c2, c3, c4, c5, c6, c7, c8, c9, c10]) :
    w.cell? ⟨g, 0, none⟩ = some c0 ∧ w.cell? ⟨g, 1, none⟩ = some c1 ∧ w.cell? ⟨g, 2, none⟩ = some c2 ∧ w.cell? ⟨g, 3, none⟩ = some c3 ∧ w.cell? ⟨g, 4, none⟩ = some c4 ∧ w.cell? ⟨g, 5, none⟩ = some c5 ∧ w.cell? ⟨g, 6, none⟩ = some c6 ∧ w.cell? ⟨g, 7, none⟩ = some c7 ∧ w.cell? ⟨g, 8, none⟩ = some c8 ∧ w.cell? ⟨g, 9, none⟩ = some c9 ∧ w.cell? ⟨g, 10, none⟩ = some c10 :=
  ⟨h.cell 0, h.cell 1, h.cell 2, h.cell 3, h.cell 4, h.cell 5, h.cell 6, h.cell 7, h.cell 8, h.cell 9, h.cell 10⟩

/-- Eight parts are stored behind the first three. -/
abbrev setV (w : World) (g : Nat) (v0 v1 v2 v3 v4 v5 v6 v7 : Value) : World :=
  (((((((w.setCell ⟨g, 3, none⟩ v0).setCell ⟨g, 4, none⟩ v1).setCell ⟨g, 5, none⟩ v2).setCell ⟨g, 6, none⟩ v3).setCell ⟨g, 7, none⟩ v4).setCell ⟨g, 8, none⟩ v5).setCell ⟨g, 9, none⟩ v6).setCell ⟨g, 10, none⟩ v7
theorem heap_setV (w : World) (g : Nat) (v0 v1 v2 v3 v4 v5 v6 v7 : Value) {b : Nat} (hb : b ≠ g) : (setV w g v0 v1 v2 v3 v4 v5 v6 v7).heap[b]? = w.heap[b]? := by
  simp only [setV, heap_setCell _ _ _ _ hb]
theorem below_setV {B : Nat} {a w : World} (h : Below B a w) {g : Nat} (hg : B ≤ g) (v0 v1 v2 v3 v4 v5 v6 v7 : Value) : Below B a (setV w g v0 v1 v2 v3 v4 v5 v6 v7) :=
  (((((((h.setCell (p := ⟨g, 3, none⟩) hg v0).setCell (p := ⟨g, 4, none⟩) hg v1).setCell (p := ⟨g, 5, none⟩) hg v2).setCell (p := ⟨g, 6, none⟩) hg v3).setCell (p := ⟨g, 7, none⟩) hg v4).setCell (p := ⟨g, 8, none⟩) hg v5).setCell (p := ⟨g, 9, none⟩) hg v6).setCell (p := ⟨g, 10, none⟩) hg v7
theorem Blk.setV {w : World} {g : Nat} {t : TypeId} {c0 c1 c2 c3 c4 c5 c6 c7 c8 c9 c10 : Value} (h : Blk w g t #[c0, c1, c2, c3, c4, c5, c6, c7, c8, c9, c10]) (v0 v1 v2 v3 v4 v5 v6 v7 : Value) :
    Blk (setV w g v0 v1 v2 v3 v4 v5 v6 v7) g t #[c0, c1, c2, v0, v1, v2, v3, v4, v5, v6, v7] :=
  have h3 : Blk _ g t [c0, c1, c2, v0, c4, c5, c6, c7, c8, c9, c10].toArray := Blk.setL (l := [c0, c1, c2, c3, c4, c5, c6, c7, c8, c9, c10]) h 3 v0
  have h4 : Blk _ g t [c0, c1, c2, v0, v1, c5, c6, c7, c8, c9, c10].toArray := h3.setL 4 v1
  have h5 : Blk _ g t [c0, c1, c2, v0, v1, v2, c6, c7, c8, c9, c10].toArray := h4.setL 5 v2
  have h6 : Blk _ g t [c0, c1, c2, v0, v1, v2, v3, c7, c8, c9, c10].toArray := h5.setL 6 v3
  have h7 : Blk _ g t [c0, c1, c2, v0, v1, v2, v3, v4, c8, c9, c10].toArray := h6.setL 7 v4
  have h8 : Blk _ g t [c0, c1, c2, v0, v1, v2, v3, v4, v5, c9, c10].toArray := h7.setL 8 v5
  have h9 : Blk _ g t [c0, c1, c2, v0, v1, v2, v3, v4, v5, v6, c10].toArray := h8.setL 9 v6
  h9.setL 10 v7
theorem Blk.farV {w : World} {g h : Nat} {t : TypeId} {cs : Array Value} (hb : Blk w g t cs) (hn : g ≠ h) (v0 v1 v2 v3 v4 v5 v6 v7 : Value) : Blk (Go.Proofs.YtfolfibembplbaaGreatDoor.setV w h v0 v1 v2 v3 v4 v5 v6 v7) g t cs := by
  unfold Blk
  rw [heap_setV _ _ _ _ _ _ _ _ _ _ hn]
  exact hb

/-- What the reading of a value as an operation tells. -/
def OpPost (S : Nat → Prop) (r : Option Opn) (w : World) (e : Ending) (w' : World) : Prop :=
  ∃ (o : Opn) (y : Value), e = .returned (.tuple #[y, .bool r.isSome]) ∧ (∀ q, r = some q → o = q) ∧ o.In (w'.on fun b => S b ∨ w.heap.size ≤ b) y ∧ Below w.heap.size w w'
theorem OpPost.no {S : Nat → Prop} {r : Option Opn} {w w' : World} (h : r = none) (hb : Below w.heap.size w w') : OpPost S r w (.returned (.tuple #[.agg zeroO, .bool false])) w' := by
  subst h; exact ⟨Opn.zero, _, rfl, (fun q h => by cases h), zeroO_in _, hb⟩
theorem OpPost.fin {S : Nat → Prop} {r : Option Opn} {o : Opn} {bb : Bool} {y : Value} {w w' : World} (hb : r.isSome = bb) (ho : ∀ q, r = some q → o = q) (hi : o.In (w'.on fun b => S b ∨ w.heap.size ≤ b) y) (hB : Below w.heap.size w w') :
    OpPost S r w (.returned (.tuple #[y, .bool bb])) w' := ⟨o, y, by rw [hb], ho, hi, hB⟩

section
variable {w wr w' : World} {S : Nat → Prop} {g6 : Nat} {V R O : Array Value}
end
theorem opn_text_none {v : Vl} (h : textOf v kOp = none) : opn v = none := by unfold opn; rw [h]; rfl
theorem opn_num_none {v : Vl} {t : List UInt8} (h : textOf v kOp = some t) (h0 : numOf t = 0) : opn v = none := by unfold opn; rw [h]; simp [h0]
theorem opn_ptr {v : Vl} {t : List UInt8} (h : textOf v kOp = some t) (h0 : numOf t ≠ 0) : opn v = (ptrOf v kPath).bind fun p => restOf v (numOf t) p := by unfold opn; rw [h]; simp [h0]

end Go.Proofs.YtfolfibembplbaaGreatDoor

/- The walks of layer 8 (patch): the program's operation. -/
namespace Go.Proofs.YtfolfibembplbaaGreatDoor
open Go.RowKit Pt Js Oq
end Go.Proofs.YtfolfibembplbaaGreatDoor

/- The walks of layer 8 (patch): the program's Read. -/
namespace Go.Proofs.YtfolfibembplbaaGreatDoor
open Go.RowKit Pt Js Oq

/-- Parts of a row are stored, one behind the other. -/
def putL : List Value → Nat → List Value → List Value
  | cs, _, [] => cs
  | cs, o, v :: r => putL (cs.set o v) (o + 1) r
theorem putL_length (vs : List Value) : ∀ (cs : List Value) (o : Nat), (putL cs o vs).length = cs.length := by
  induction vs with
  | nil => intro cs o; rfl
  | cons v r ih => intro cs o; show (putL (cs.set o v) (o + 1) r).length = _; rw [ih, List.length_set]
theorem putL_off (vs : List Value) : ∀ (cs : List Value) (o : Nat) {k : Nat}, (k < o ∨ o + vs.length ≤ k) → (putL cs o vs)[k]? = cs[k]? := by
  induction vs with
  | nil => intro cs o k _; rfl
  | cons v r ih =>
    intro cs o k h
    rw [List.length_cons] at h
    show (putL (cs.set o v) (o + 1) r)[k]? = _
    rw [ih _ _ (by omega), List.getElem?_set_ne (by omega)]
theorem putL_at (vs : List Value) : ∀ (cs : List Value) (o : Nat) {i : Nat} {u : Value}, o + vs.length ≤ cs.length → vs[i]? = some u → (putL cs o vs)[o + i]? = some u := by
  induction vs with
  | nil => intro cs o i u _ h; simp at h
  | cons v r ih =>
    intro cs o i u h hu
    rw [List.length_cons] at h
    show (putL (cs.set o v) (o + 1) r)[o + i]? = _
    cases i with
    | zero =>
      simp at hu
      subst hu
      rw [putL_off _ _ _ (.inl (by omega)), Nat.add_zero, List.getElem?_set_self (by omega)]
    | succ i =>
      rw [show o + (i + 1) = o + 1 + i by omega]
      exact ih _ _ (by rw [List.length_set]; omega) (by simpa using hu)
theorem Blk.setCells {g : Nat} {t : TypeId} (vs : List Value) : ∀ {w : World} {cs : List Value} {o : Nat}, Blk w g t cs.toArray → Blk (w.setCells g o vs) g t (putL cs o vs).toArray := by
  induction vs with
  | nil => intro w cs o h; exact h
  | cons v r ih => intro w cs o h; exact ih (h.setL o v)
theorem heap_setCells {g : Nat} (vs : List Value) : ∀ (w : World) (o : Nat) {b : Nat}, b ≠ g → (w.setCells g o vs).heap[b]? = w.heap[b]? := by
  induction vs with
  | nil => intro w o b h; rfl
  | cons v r ih => intro w o b h; exact (ih _ _ h).trans (heap_setCell _ _ _ _ h)
theorem below_setCells {B g : Nat} {a : World} (hg : B ≤ g) (vs : List Value) : ∀ {w : World} {o : Nat}, Below B a w → Below B a (w.setCells g o vs) := by
  induction vs with
  | nil => intro w o h; exact h
  | cons v r ih => intro w o h; exact ih (h.setCell (p := ⟨g, o, none⟩) hg v)

/-- A slice of operations lies in memory. -/
def SlO (c : Cl) (A : Option Addr) (l : List Opn) : Prop := ∀ i o, l[i]? = some o → ∃ g off y, A = some ⟨g, off, none⟩ ∧ o.In c y ∧ CellsAt c g (off + i * 11) y
theorem SlO.keep {c c' : Cl} (h : c.le c') {A : Option Addr} {l : List Opn} (hs : SlO c A l) : SlO c' A l := fun i o hi => by
  obtain ⟨g, off, y, h1, h2, h3⟩ := hs i o hi
  exact ⟨g, off, y, h1, OIn.keep h h2, h3.keep h⟩
theorem slO_nil (c : Cl) (A : Option Addr) : SlO c A [] := fun i o h => by simp at h
section
variable {S : Nat → Prop} {w : World} {l : List Vl} {g j : Nat} {acc : List Opn} {cs : List Value} {wr w' : World}
end
end Go.Proofs.YtfolfibembplbaaGreatDoor


