/- Mo: Mo Tf, in one text. -/
import Derived.Test.YtccacjkogdmleaaDoorWg
import Derived.Test.YtccacjkogdmleaaDoorMa
import Derived.Laws.Concat
import Derived.Deep.DeepFit
import Derived.IntWalk
import Derived.Deep.QuietTactic
import Derived.BigQuiet
import Derived.Deep.DeepCutAuto
/- Mo: Ta Tb Tc Td Te, in one text. -/
/- The walks of the document's answers of layer 1, first part: run, zeros, Whole, itoa, ShowNum. -/
namespace Go.Proofs.YtccacjkogdmleaaDoor
open Go.RowKit
/-- A string and one byte more. -/
theorem snoc_mk (l : List UInt8) (c : UInt8) : (⟨l.toArray⟩ : ByteArray) ++ ⟨#[c]⟩ = ⟨(l ++ [c]).toArray⟩ := by
  rw [show (⟨#[c]⟩ : ByteArray) = ⟨[c].toArray⟩ from rfl, ByteArray.mk_append_mk]

/-- One byte that lies in a block, as a string. -/
theorem one_byte (W : World) (b : Nat) (k : Int) (h : W.cell? ⟨b, 0, none⟩ = some (.int .u8 k)) (h0 : 0 ≤ k) (h1 : k < 256) :
    (convert 34 9 (.slice (some ⟨b, 0, none⟩) 1 1)).run Tryd.prog W = .ok (.string ⟨[UInt8.ofNat k.toNat].toArray⟩) W := by
  refine run_convert_bytes_back W 34 9 5 ⟨b, 0, none⟩ 1 [UInt8.ofNat k.toNat] Tryd.underlying34 Tryd.underlying5 Tryd.underlying9 ?_
  intro j hj
  have hj0 : j = 0 := by simpa using hj
  subst hj0
  have e : (UInt8.ofNat k.toNat).toNat = k.toNat := by rw [UInt8.toNat_ofNat']; omega
  show W.cell? (Addr.add ⟨b, 0, none⟩ 0) = _
  rw [show Addr.add ⟨b, 0, none⟩ 0 = ⟨b, 0, none⟩ from rfl, h]
  simp only [List.getElem_cons_zero, e]
  rw [Int.toNat_of_nonneg h0]

theorem cat_mk (W : World) (a b : List UInt8) (h : a.length + b.length ≤ 9223372036854775807) : (Op.stringOp .add ⟨a.toArray⟩ ⟨b.toArray⟩).run Tryd.prog W = .ok (.string ⟨(a ++ b).toArray⟩) W := by
  rw [run_string_add_sum W _ _ (by rw [Lib.size_mk, Lib.size_mk]; omega), ByteArray.mk_append_mk]

theorem dec_len (n : Nat) (h : n ≤ 1000000000000) : (Lib.decDigits n).length ≤ 21 := by
  have := Lib.itoa_length_le n (by omega) (by omega)
  rw [Nm.itoa_nat _ (by omega)] at this
  simpa using this

end Go.Proofs.YtccacjkogdmleaaDoor

/- The walks of the document's answers of layer 1, second part: itoa. -/
namespace Go.Proofs.YtccacjkogdmleaaDoor
open Go.RowKit

theorem below_call0 (w : World) {w2 : World} (h : Below w.drew.heap.size w.drew w2) : Below w.heap.size w w2 := (Below.refl _ w).drew.trans h
theorem below_call1 (w : World) (o : Obj) {w2 : World} (h : Below (w.alloc o).drew.heap.size (w.alloc o).drew w2) : Below w.heap.size w w2 := ((Below.refl _ w).alloc (Nat.le_refl _) o).drew.trans (h.mono (by simp))

end Go.Proofs.YtccacjkogdmleaaDoor

/- The walks of the document's answers of layer 1, third part: Less, Cmp. -/
namespace Go.Proofs.YtccacjkogdmleaaDoor
open Go.RowKit

theorem TwoAt.start0 (w : World) (na : Bool) (da : List UInt8) (xa : Int) (nb : Bool) (db : List UInt8) (xb : Int) (t : TypeId) :
    TwoAt w na da xa nb db xb ((w.alloc (.cells #[.bool na, .string ⟨da.toArray⟩, .int .i64 xa] t)).alloc (.cells #[.bool nb, .string ⟨db.toArray⟩, .int .i64 xb] t)) := by
  refine ⟨⟨?_, ?_, ?_⟩, ⟨?_, ?_, ?_⟩, below_two0 _ _ _, by simp⟩ <;> simp

theorem TwoAt.drew {w : World} {na : Bool} {da : List UInt8} {xa : Int} {nb : Bool} {db : List UInt8} {xb : Int} {W : World} (h : TwoAt w na da xa nb db xb W) : TwoAt w na da xa nb db xb W.drew := h.keep (Below.refl _ W).drew

end Go.Proofs.YtccacjkogdmleaaDoor

/- The walks of the document's answers of layer 1, fourth part: MayNum. -/
namespace Go.Proofs.YtccacjkogdmleaaDoor
open Go.RowKit

theorem byte_bne {c k : UInt8} (h : ¬ c = k) : ((c.toNat : Int) != (k.toNat : Int)) = true := by rw [bne, Nm.byte_ne h]; rfl

/-- What MayNum asks beside the digits. -/
def mayB (n : Nat) (x : Int) : Bool := !(decide (60 < n) || decide (x < -1000) || decide (1000 < x))

end Go.Proofs.YtccacjkogdmleaaDoor

/- The walks of the document's answers of layer 1, fifth part: End. -/
namespace Go.Proofs.YtccacjkogdmleaaDoor
open Go.RowKit

/-- A place in a text, and what stands from it on. -/
def From (s : ByteArray) (a : Int) (t : List UInt8) : Prop := 0 ≤ a ∧ a ≤ s.size ∧ s.data.toList.drop a.toNat = t

theorem From.some {s : ByteArray} {a : Int} {c : UInt8} {r : List UInt8} (h : From s a (c :: r)) : a < s.size ∧ (∀ h, s[a.toNat]'h = c) ∧ From s (a + 1) r := by
  obtain ⟨h0, h1, h2⟩ := h
  have hlt : a.toNat < s.data.toList.length := by
    rcases Nat.lt_or_ge a.toNat s.data.toList.length with h | h
    · exact h
    · rw [List.drop_eq_nil_of_le h] at h2; cases h2
  have he := List.drop_eq_getElem_cons hlt
  rw [h2] at he
  have hlt' : a.toNat < s.size := by rw [Lib.size_eq]; exact hlt
  refine ⟨by omega, fun h => ?_, by omega, by omega, ?_⟩
  · exact (List.cons.inj he).1.symm
  · rw [show (a + 1).toNat = a.toNat + 1 from by omega]; exact (List.cons.inj he).2.symm
theorem From.none {s : ByteArray} {a : Int} (h : From s a []) : ¬ a < s.size := by
  obtain ⟨h0, h1, h2⟩ := h
  have := congrArg List.length h2
  rw [List.length_drop, ← Lib.size_eq] at this
  simp at this
  omega
theorem From.more {s : ByteArray} {a : Int} {t : List UInt8} (h : From s a t) (n : Nat) (hn : n ≤ t.length) : From s (a + n) (t.drop n) := by
  obtain ⟨h0, h1, h2⟩ := h
  have := congrArg List.length h2
  rw [List.length_drop, ← Lib.size_eq] at this
  refine ⟨by omega, by omega, ?_⟩
  rw [show (a + n).toNat = a.toNat + n from by omega, ← List.drop_drop, h2]
theorem From.digits {s : ByteArray} {a : Int} {t : List UInt8} (h : From s a t) : From s (a + ((Nm.pre t).length : Nat)) (Nm.suf t) := by
  have := h.more (Nm.pre t).length (Nm.pre_len t)
  have e : t.drop (Nm.pre t).length = Nm.suf t := by
    have h2 := Nm.pre_suf t
    have h3 : (Nm.pre t ++ Nm.suf t).drop (Nm.pre t).length = Nm.suf t := List.drop_left
    rw [h2] at h3
    exact h3
  rw [e] at this
  exact this
theorem From.at_eq {s : ByteArray} {a : Int} {t : List UInt8} (h : From s a t) : a = (s.size : Int) - t.length := by
  obtain ⟨h0, h1, h2⟩ := h
  have := congrArg List.length h2
  rw [List.length_drop, ← Lib.size_eq] at this
  omega

end Go.Proofs.YtccacjkogdmleaaDoor

/- The walks of the document's answers of layer 1, sixth part: End. -/
namespace Go.Proofs.YtccacjkogdmleaaDoor
open Go.RowKit

/-- A place in a slot, and what stands from it on. -/
def CutA (s : ByteArray) (t : List UInt8) (v : Value) : Prop := ∃ a1, v = .int .i64 a1 ∧ From s a1 t
/-- So many digits in a slot, and what stands behind them. -/
def CutB (s : ByteArray) (a : Int) (t : List UInt8) (v : Value) : Prop := ∃ n : Int, v = .int .i64 n ∧ 0 ≤ n ∧ From s (a + n) t
/-- A place in a slot, behind a point and its digits. -/
def CutC (s : ByteArray) (t3 : List UInt8) (v : Value) : Prop := ∃ a5 t5, v = .int .i64 a5 ∧ From s a5 t5 ∧ Nm.endPoint t3 = Nm.endExp t5

def isE (t : List UInt8) : Bool := t.head? == some 101 || t.head? == some 69
def isSign (t : List UInt8) : Bool := t.head? == some 43 || t.head? == some 45

/-- The end of End: a place, and what stands from it on. -/
def Ends (s : ByteArray) (t0 : List UInt8) (w : World) (e : Ending) (w' : World) : Prop := e = .returned (.tuple #[.int .i64 (s.size - (Nm.endOf t0).1.length), .bool (Nm.endOf t0).2]) ∧ w = w'

theorem Ends.of {s : ByteArray} {t0 t : List UInt8} {a : Int} {b : Bool} (w : World) (F : From s a t) (h : Nm.endOf t0 = (t, b)) : Ends s t0 w (.returned (.tuple #[.int .i64 a, .bool b])) w := by
  unfold Ends
  rw [h, F.at_eq]
  exact ⟨rfl, rfl⟩

end Go.Proofs.YtccacjkogdmleaaDoor


