/- Mm: Sj Sk Sl, in one text. -/
import Derived.Test.YtmdpjhcghdjmmaaMl
import Derived.Test.YtmdpjhcghdjmmaaMd
import Derived.Test.YtmdpjhcghdjmmaaMi
/- The walks of layer 2 (str), fifth part: character, the Builder's WriteRune. -/
namespace Go.Proofs.Ytmdpjhcghdjmmaa
open Go.RowKit
end Go.Proofs.Ytmdpjhcghdjmmaa

/- The walks of layer 2 (str), sixth part: Unquote. -/
namespace Go.Proofs.Ytmdpjhcghdjmmaa
open Go.RowKit
theorem builder_on {T e : TypeId} {B b : Nat} {bs : List Value} {w w' : World} (h : Lib.IsBuilder T e B b bs w) (hb : Below w.heap.size w w') : Lib.IsBuilder T e B b bs w' := by
  have hg : w.grownBy w' none := ⟨hb.os, hb.tape, hb.output, hb.size, fun k hk _ => hb.block k hk⟩
  rcases h with h | h
  all_goals
    have hlt := h.lt
    obtain ⟨hB, v, hbk, hown, hne⟩ := h
  · exact .inl ⟨hB, v, (hb.block b hlt).trans hbk, hown.kept hg (by cases v.ownBlock <;> simp), hne⟩
  · exact .inr ⟨hB, v, (hb.block b hlt).trans hbk, hown.kept hg (by cases v.ownBlock <;> simp), hne⟩

end Go.Proofs.Ytmdpjhcghdjmmaa

/- The walks of layer 2 (str), seventh part: Quote. -/
namespace Go.Proofs.Ytmdpjhcghdjmmaa
open Go.RowKit

theorem byteCells_one (out : List UInt8) (c : UInt8) : Lib.byteCells out ++ [Value.int .u8 (c.toNat : Int)] = Lib.byteCells (out ++ [c]) := by
  rw [Lib.byteCells_append]; rfl

theorem qb_take (l : List UInt8) (k : Nat) (h : k < l.length) : St.qb (l.take (k + 1)) = St.qb (l.take k) ++ St.qc l[k] := by
  rw [List.take_succ_eq_append_getElem h, St.qb_append]
  simp [St.qb]
theorem qc_len (c : UInt8) : (St.qc c).length ≤ 6 := by
  unfold St.qc; repeat' split
  all_goals simp
theorem qb_len (l : List UInt8) : (St.qb l).length ≤ 6 * l.length := by
  induction l with
  | nil => simp [St.qb]
  | cons c t ih => rw [St.qb_cons, List.length_append, List.length_cons]; have := qc_len c; omega

theorem hexTab : ∀ (d : Nat) (h : d < 16), (⟨#[48, 49, 50, 51, 52, 53, 54, 55, 56, 57, 97, 98, 99, 100, 101, 102]⟩ : ByteArray)[d]'h = St.hexd d := by decide

end Go.Proofs.Ytmdpjhcghdjmmaa


