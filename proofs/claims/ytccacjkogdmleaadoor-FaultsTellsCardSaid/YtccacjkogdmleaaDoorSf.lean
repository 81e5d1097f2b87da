/- Sf: Sf Mn, in one text. -/
import Derived.Test.YtccacjkogdmleaaDoorMk
import Derived.Test.YtccacjkogdmleaaDoorMb
import Derived.Laws.Concat
/- The walks of the document's answers of layer 2, first part: Utf8. -/
namespace Go.Proofs.YtccacjkogdmleaaDoor
open Go.RowKit

/-- The bytes of a text from a place on. -/
theorem g_at (s : ByteArray) (a j : Nat) (h : a + j < s.size) : s[a + j].toNat = St.g (s.data.toList.drop a) j := by
  unfold St.g
  rw [List.getD_eq_getElem?_getD, List.getElem?_drop, List.getElem?_eq_getElem (by rw [← Lib.size_eq]; exact h)]
  rfl

end Go.Proofs.YtccacjkogdmleaaDoor

/- Mn: Sm Ua Ub Uc Sn Ud Uf, in one text. -/
/- The walks of layer 2, eighth part: the document's Text, the laws' Pick and head. -/
namespace Go.Proofs.YtccacjkogdmleaaDoor
open Go.RowKit

theorem St.textGo_step (f : Nat) (l : List UInt8) (h : l ≠ []) : St.textGo (f + 1) l = if St.utf8 l = 0 then false else St.textGo f (l.drop (St.utf8 l)) := by
  cases l with
  | nil => exact absurd rfl h
  | cons c t => rfl
theorem St.textGo_nil (f : Nat) : St.textGo f [] = true := by cases f <;> rfl

/-- How far Text has come. -/
def Texting (l : List UInt8) (v : Value) (k f : Nat) : Prop := k ≤ l.length ∧ l.length - k ≤ f ∧ v = .int .i64 k ∧ St.textGo f (l.drop k) = St.text l

theorem tmod_ways (n m : Int) (hm : 0 < m) : (n.tmod m < 0 ∧ -m ≤ n.tmod m ∧ n.tmod m + m = n % m) ∨ (0 ≤ n.tmod m ∧ n.tmod m < m ∧ n.tmod m = n % m) := by
  have h1 := Int.emod_nonneg n (by omega : m ≠ 0)
  have h2 := Int.emod_lt_of_pos n hm
  rw [Int.tmod_eq_emod]
  split
  · right; omega
  · left; omega

theorem St.up1 : St.unq [34, 97, 92, 117, 48, 48, 52, 49, 34] 0 = ⟨[97, 65], 9, 0, 0⟩ := by rfl
theorem St.up2 : St.quote [34, 10] = [34, 92, 34, 92, 117, 48, 48, 48, 97, 34] := by rfl

end Go.Proofs.YtccacjkogdmleaaDoor

/- The walks of the document's answers of layer 2, second part: hex, low. -/
namespace Go.Proofs.YtccacjkogdmleaaDoor
open Go.RowKit

/-- What hex tells: a number, or the place that goes wrong. -/
def hexV (p : Nat × Nat) : Nat := if p.2 < 4 then 0 else p.1
def hexP (a : Nat) (p : Nat × Nat) : Int := if p.2 < 4 then ((a + p.2 : Nat) : Int) else -1

/-- How far hex has come. -/
def Hexing (l : List UInt8) (len a : Nat) (v i : Value) (k r : Nat) : Prop :=
  k ≤ 4 ∧ a + k ≤ len ∧ Bd k r ∧ i = .int .i64 ((a + k : Nat) : Int) ∧ v = .int .i64 (r : Int) ∧ St.fourGo (4 - k) r k (l.drop k) = St.four l

end Go.Proofs.YtccacjkogdmleaaDoor

/- The walks of the document's answers of layer 2, third part: low, char. -/
namespace Go.Proofs.YtccacjkogdmleaaDoor
open Go.RowKit

/-- What low tells. -/
def lowV (p : Nat × Bool) : Int := if p.2 = true then (p.1 : Int) else -1
theorem lowV_no {p : Nat × Bool} (h : p.2 = false) : lowV p = -1 := by unfold lowV; rw [h]; rfl

end Go.Proofs.YtccacjkogdmleaaDoor

/- The walks of the document's answers of layer 2, fourth part: char. -/
namespace Go.Proofs.YtccacjkogdmleaaDoor
open Go.RowKit

/-- Bytes that lie in a block, as a string. -/
theorem bytes_str (W : World) (b n : Nat) (l : List UInt8) (hn : l.length = n) (h : ∀ j (hj : j < l.length), W.cell? ⟨b, j, none⟩ = some (.int .u8 l[j].toNat)) :
    (convert 34 9 (.slice (some ⟨b, 0, none⟩) n n)).run Tryd.prog W = .ok (.string ⟨l.toArray⟩) W := by
  subst hn
  refine run_convert_bytes_back W 34 9 5 ⟨b, 0, none⟩ l.length l Tryd.underlying34 Tryd.underlying5 Tryd.underlying9 ?_
  intro j hj
  have e : Addr.add ⟨b, 0, none⟩ j = ⟨b, j, none⟩ := by
    unfold Addr.add
    split
    · rename_i e; subst e; rfl
    · rw [Nat.zero_add]
  show W.cell? (Addr.add ⟨b, 0, none⟩ j) = _
  rw [e, h j hj]

/-- The bytes of a character, laid in a new block, as a string. -/
theorem rune_str (w : World) (v : Int) (zs : List Int) (hz : Lib.encodeRuneZ v = zs) :
    (convert 34 9 (.slice (some ⟨w.heap.size, 0, none⟩) zs.length zs.length)).run Tryd.prog (w.alloc (.cells (zs.map (Value.int .u8)).toArray 5)) = .ok (.string ⟨(Lib.encodeRune v).toArray⟩) (w.alloc (.cells (zs.map (Value.int .u8)).toArray 5)) := by
  subst hz
  have hb := Lib.encodeRuneZ_byte v
  unfold Lib.encodeRune
  generalize Lib.encodeRuneZ v = zs at hb ⊢
  refine bytes_str _ _ _ _ (by rw [List.length_map]) ?_
  intro j hj
  rw [List.length_map] at hj
  have hx := hb zs[j] (List.getElem_mem hj)
  rw [List.getElem_map]
  rw [show (zs[j].toNat.toUInt8).toNat = zs[j].toNat by rw [show zs[j].toNat.toUInt8 = UInt8.ofNat zs[j].toNat from rfl, UInt8.toNat_ofNat']; omega]
  simp [hj]
  omega

end Go.Proofs.YtccacjkogdmleaaDoor

/- The walks of layer 2, ninth part: StrBack. -/
namespace Go.Proofs.YtccacjkogdmleaaDoor
open Go.RowKit

theorem cat_lists (W : World) (a b : List UInt8) (h : a.length + b.length ≤ 9223372036854775807) : (Op.stringOp .add ⟨a.toArray⟩ ⟨b.toArray⟩).run Tryd.prog W = .ok (.string ⟨(a ++ b).toArray⟩) W := by
  rw [run_string_add_sum W _ _ (by rw [Lib.size_mk, Lib.size_mk]; omega), ByteArray.mk_append_mk]

end Go.Proofs.YtccacjkogdmleaaDoor

/- The walks of layer 2, fifth part of the document's answers: the laws' Spot, the document's Quote. -/
namespace Go.Proofs.YtccacjkogdmleaaDoor
open Go.RowKit
/-- Bytes, laid in a new block, as a string. -/
theorem list_str (W : World) (l : List UInt8) :
    (convert 34 9 (.slice (some ⟨W.heap.size, 0, none⟩) l.length l.length)).run Tryd.prog (W.alloc (.cells (l.map (fun c => Value.int .u8 (c.toNat : Int))).toArray 5)) = .ok (.string ⟨l.toArray⟩) (W.alloc (.cells (l.map (fun c => Value.int .u8 (c.toNat : Int))).toArray 5)) := by
  refine bytes_str _ _ _ _ rfl ?_
  intro j hj
  simp [hj]
theorem one_str (W : World) (c : UInt8) :
    (convert 34 9 (.slice (some ⟨W.heap.size, 0, none⟩) 1 1)).run Tryd.prog (W.alloc (.cells #[.int .u8 (c.toNat : Int)] 5)) = .ok (.string ⟨[c].toArray⟩) (W.alloc (.cells #[.int .u8 (c.toNat : Int)] 5)) := list_str W [c]

theorem two_str (W : World) (c d : UInt8) :
    (convert 34 9 (.slice (some ⟨W.heap.size, 0, none⟩) 2 2)).run Tryd.prog (W.alloc (.cells #[.int .u8 (c.toNat : Int), .int .u8 (d.toNat : Int)] 5)).drew = .ok (.string ⟨[c, d].toArray⟩) (W.alloc (.cells #[.int .u8 (c.toNat : Int), .int .u8 (d.toNat : Int)] 5)).drew := by
  refine bytes_str _ _ 2 [c, d] rfl ?_
  intro j hj
  have hj' : j = 0 ∨ j = 1 := by simp at hj; omega
  rcases hj' with rfl | rfl <;> simp

/-- How far the document's Quote has come. -/
def RQuoting (w : World) (l : List UInt8) (o v : Value) (wr : World) (k : Nat) : Prop :=
  k ≤ l.length ∧ v = .int .i64 k ∧ o = .string ⟨(34 :: St.qb (l.take k)).toArray⟩ ∧ Below w.heap.size w wr

end Go.Proofs.YtccacjkogdmleaaDoor

/- The walks of layer 2, sixth part of the document's answers: Unquote. -/
namespace Go.Proofs.YtccacjkogdmleaaDoor
open Go.RowKit

theorem results_tmp4 {fn : Func} {t u v x : Tmp} (h : fn.results = #[.tmp t, .tmp u, .tmp v, .tmp x]) (tmps : Array Value) (P : Program) (w : World) :
    (results fn tmps).run P w = .ok (.tuple #[tmps.getD t undef, tmps.getD u undef, tmps.getD v undef, tmps.getD x undef]) w := by
  simp [results, h]

/-- What the document's Unquote tells. -/
def RUnq (r : St.Ans) (w : World) (e : Ending) (w' : World) : Prop :=
  e = .returned (.tuple #[.string ⟨r.text.toArray⟩, .int .i64 r.n, .int .i64 r.code, .int .i64 r.place]) ∧ Below w.heap.size w w'

theorem RUnq.bad {r : St.Ans} {w w' : World} {k : Nat} {p p' : Int} (hr : r = ⟨[], 0, k, p⟩) (hp : p = p') (h : Below w.heap.size w w') :
    RUnq r w (.returned (.tuple #[.string ⟨#[]⟩, .int .i64 0, .int .i64 k, .int .i64 p'])) w' := by
  subst hr hp; exact ⟨rfl, h⟩
theorem RUnq.ok {r : St.Ans} {w w' : World} {t : List UInt8} {n : Nat} {m : Int} (hr : r = ⟨t, n, 0, 0⟩) (hm : (n : Int) = m) (h : Below w.heap.size w w') :
    RUnq r w (.returned (.tuple #[.string ⟨t.toArray⟩, .int .i64 m, .int .i64 0, .int .i64 0])) w' := by
  subst hr hm; exact ⟨rfl, h⟩

/-- How far the document's Unquote has come. -/
def RGoes (w : World) (l : List UInt8) (n : Nat) (R : St.Res) (o v : Value) (wr : World) (k : Nat) : Prop :=
  ∃ out f, n < k ∧ k ≤ l.length ∧ v = .int .i64 k ∧ o = .string ⟨out.toArray⟩ ∧ out.length ≤ 4 * k ∧ l.length - k < f ∧ St.run f (l.drop k) out k = R ∧ Below w.heap.size w wr

/-- How far it has come in its list of what may stand behind a backslash. -/
def Finding (out : List UInt8) (d : UInt8) (W : World) (o f v : Value) (w2 : World) (j : Nat) : Prop :=
  j ≤ 8 ∧ v = .int .i64 j ∧ o = .string ⟨(out ++ St.hit d j).toArray⟩ ∧ f = .bool (!(St.hit d j).isEmpty) ∧ Below W.heap.size W w2

theorem toCell (W w2 : World) (hb : Below (W.alloc (.cells #[.int .u8 34, .int .u8 92, .int .u8 47, .int .u8 8, .int .u8 12, .int .u8 10, .int .u8 13, .int .u8 9] 5)).heap.size (W.alloc (.cells #[.int .u8 34, .int .u8 92, .int .u8 47, .int .u8 8, .int .u8 12, .int .u8 10, .int .u8 13, .int .u8 9] 5)) w2) (j : Nat) (hj : j < 8) :
    w2.cell? ⟨W.heap.size, j, none⟩ = some (.int .u8 ((St.toL[j]'hj).toNat : Int)) := by
  rw [hb.cell (p := ⟨W.heap.size, j, none⟩) (by simp)]
  match j, hj with
  | 0, _ => simp
  | 1, _ => simp
  | 2, _ => simp
  | 3, _ => simp
  | 4, _ => simp
  | 5, _ => simp
  | 6, _ => simp
  | 7, _ => simp

theorem frAt : ∀ (j : Nat) (h : j < 8) (h' : j < (⟨#[34, 92, 47, 98, 102, 110, 114, 116]⟩ : ByteArray).size), (⟨#[34, 92, 47, 98, 102, 110, 114, 116]⟩ : ByteArray)[j]'h' = St.frL[j]'h := by decide

end Go.Proofs.YtccacjkogdmleaaDoor


