/- Mm: Sj Sk Sl, in one text. -/
import Derived.Test.YtkhplaknogalgaaDoorMk
import Derived.Test.YtkhplaknogalgaaDoorMd
import Derived.Test.YtkhplaknogalgaaDoorMh
/- The walks of layer 2 (str), fifth part: character, the Builder's WriteRune. -/
namespace Go.Proofs.YtkhplaknogalgaaDoor
open Go.RowKit

/-- The two tables of Go's library that a character is told by. -/
abbrev Tabs (w : World) : Prop := Lib.Utf8Tabs 1 2 w

theorem Tabs.keep {w w' : World} {B : Nat} (h : Tabs w) (hb : Below B w w') (h1 : 1 < B) (h2 : 2 < B) : Tabs w' := by
  obtain ⟨a, b⟩ := h
  exact ⟨fun c hc => (hb.cell (p := ⟨_, c, none⟩) h1).trans (a c hc), fun i hi => ⟨(hb.cell (p := ⟨_, 2 * i, none⟩) h2).trans (b i hi).1, (hb.cell (p := ⟨_, 2 * i + 1, none⟩) h2).trans (b i hi).2⟩⟩
theorem Tabs.lt {w : World} (h : Tabs w) : 1 < w.heap.size ∧ 2 < w.heap.size :=
  ⟨World.block_lt_of_cell? w _ (h.1 0 (by decide)), World.block_lt_of_cell? w _ (h.2 0 (by decide)).1⟩
theorem Tabs.on {w w' : World} (h : Tabs w) (hb : Below w.heap.size w w') : Tabs w' := h.keep hb h.lt.1 h.lt.2

end Go.Proofs.YtkhplaknogalgaaDoor

/- The walks of layer 2 (str), sixth part: Unquote. -/
namespace Go.Proofs.YtkhplaknogalgaaDoor
open Go.RowKit

/-- What Unquote tells. -/
def UnqPost (r : St.Ans) (w : World) (e : Ending) (w' : World) : Prop :=
  (r.code = 0 ∧ e = .returned (.tuple #[.string ⟨r.text.toArray⟩, .int .i64 r.n, .nilIface]) ∧ Below w.heap.size w w') ∨
  ((r.code = 1 ∨ r.code = 2) ∧ r.text = [] ∧ r.n = 0 ∧ Bad (.string ⟨#[]⟩) r.place r.code w e w')

theorem UnqPost.bad {r : St.Ans} {w w' : World} {e : Ending} {k : Nat} {p : Int} (hr : r = ⟨[], 0, k, p⟩) (hk : k = 1 ∨ k = 2) (h : Bad (.string ⟨#[]⟩) p k w e w') : UnqPost r w e w' := by
  subst hr; exact .inr ⟨hk, rfl, rfl, h⟩
theorem UnqPost.ok {r : St.Ans} {w w' : World} {e : Ending} {t : List UInt8} {n : Nat} (hr : r = ⟨t, n, 0, 0⟩) (he : e = .returned (.tuple #[.string ⟨t.toArray⟩, .int .i64 n, .nilIface])) (h : Below w.heap.size w w') : UnqPost r w e w' := by
  subst hr; exact .inl ⟨rfl, he, h⟩

theorem builder_on {T e : TypeId} {B b : Nat} {bs : List Value} {w w' : World} (h : Lib.IsBuilder T e B b bs w) (hb : Below w.heap.size w w') : Lib.IsBuilder T e B b bs w' := by
  have hg : w.grownBy w' none := ⟨hb.os, hb.tape, hb.output, hb.size, fun k hk _ => hb.block k hk⟩
  rcases h with h | h
  all_goals
    have hlt := h.lt
    obtain ⟨hB, v, hbk, hown, hne⟩ := h
  · exact .inl ⟨hB, v, (hb.block b hlt).trans hbk, hown.kept hg (by cases v.ownBlock <;> simp), hne⟩
  · exact .inr ⟨hB, v, (hb.block b hlt).trans hbk, hown.kept hg (by cases v.ownBlock <;> simp), hne⟩

/-- The world while Unquote goes over its text: the builder with its bytes; what is older is as it was. -/
structure Writing (w : World) (out : List UInt8) (wr : World) : Prop where
  b : Lib.IsBuilder 109 5 w.heap.size w.heap.size (Lib.byteCells out) wr
  below : Below w.heap.size w wr
  size : w.heap.size + 1 ≤ wr.heap.size

theorem Writing.start (w : World) : Writing w [] (w.alloc (.cells #[.pointer none, .slice none 0 0] 109)) :=
  ⟨by have h := Lib.fresh_isBuilder 109 5 w; simpa [Lib.byteCells] using h, (Below.refl _ _).alloc (Nat.le_refl _) _, by simp⟩
theorem Writing.on {w : World} {out : List UInt8} {wr w' : World} (h : Writing w out wr) (hb : Below wr.heap.size wr w') : Writing w out w' :=
  ⟨builder_on h.b hb, h.below.trans (hb.mono h.below.size), by have := hb.size; have := h.size; omega⟩
theorem Writing.next {w : World} {out out' : List UInt8} {wr w' : World} (h : Writing w out wr) (hb : Below w.heap.size wr w') (hl : Lib.IsBuilder 109 5 w.heap.size w.heap.size (Lib.byteCells out') w') : Writing w out' w' :=
  ⟨hl, h.below.trans hb, by have := hb.size; have := h.size; omega⟩

/-- How far Unquote has come. -/
def Goes (w : World) (l : List UInt8) (n : Nat) (R : St.Res) (v : Value) (wr : World) (k : Nat) : Prop :=
  ∃ out f, n < k ∧ k ≤ l.length ∧ v = .int .i64 k ∧ out.length ≤ 4 * k ∧ l.length - k < f ∧ St.run f (l.drop k) out k = R ∧ Writing w out wr

end Go.Proofs.YtkhplaknogalgaaDoor

/- The walks of layer 2 (str), seventh part: Quote. -/
namespace Go.Proofs.YtkhplaknogalgaaDoor
open Go.RowKit

theorem byteCells_one (out : List UInt8) (c : UInt8) : Lib.byteCells out ++ [Value.int .u8 (c.toNat : Int)] = Lib.byteCells (out ++ [c]) := by
  rw [Lib.byteCells_append]; rfl

theorem write_text (w : World) (out : List UInt8) (t : List UInt8) (wr : World) (h : Writing w out wr) (hl : out.length + t.length ≤ 100000000) :
    Calls Tryd.prog 67 #[.pointer (some ⟨w.heap.size, 0, none⟩), .string ⟨t.toArray⟩] wr fun e w' => e = .returned (.tuple #[.int .i64 (⟨t.toArray⟩ : ByteArray).size, .nilIface]) ∧ Writing w (out ++ t) w' := by
  refine (writeString_any _ _ _ _ _ h.b (by rw [Lib.byteCells_length, Lib.size_mk]; omega) h.below.size).mono ?_
  rw [show Lib.strCells ⟨t.toArray⟩ = Lib.byteCells t from rfl, ← Lib.byteCells_append]
  rintro e w' ⟨he, hb1, hb2⟩
  exact ⟨he, h.next hb2 hb1⟩

theorem qb_take (l : List UInt8) (k : Nat) (h : k < l.length) : St.qb (l.take (k + 1)) = St.qb (l.take k) ++ St.qc l[k] := by
  rw [List.take_succ_eq_append_getElem h, St.qb_append]
  simp [St.qb]
theorem qc_len (c : UInt8) : (St.qc c).length ≤ 6 := by
  unfold St.qc; repeat' split
  all_goals simp
theorem qb_len (l : List UInt8) : (St.qb l).length ≤ 6 * l.length := by
  induction l with
  | nil => simp [St.qb]
  | cons c t ih => rw [St.qb_cons, List.length_append, List.length_cons]; have := qc_len c; omega

theorem hexTab : ∀ (d : Nat) (h : d < 16), (⟨#[48, 49, 50, 51, 52, 53, 54, 55, 56, 57, 97, 98, 99, 100, 101, 102]⟩ : ByteArray)[d]'h = St.hexd d := by decide

/-- How far Quote has come. -/
def Quoting (w : World) (l : List UInt8) (v : Value) (wr : World) (k : Nat) : Prop :=
  k ≤ l.length ∧ v = .int .i64 k ∧ Writing w (34 :: St.qb (l.take k)) wr

end Go.Proofs.YtkhplaknogalgaaDoor


