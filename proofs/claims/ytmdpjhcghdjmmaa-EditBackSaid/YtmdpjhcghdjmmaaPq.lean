/- The walks of layer 6 (ptr): the document's Path. -/
import Derived.Test.YtmdpjhcghdjmmaaPp
import Derived.Test.YtmdpjhcghdjmmaaVb
import Derived.Test.YtmdpjhcghdjmmaaMn
import Derived.BigQuiet
namespace Go.Proofs.Ytmdpjhcghdjmmaa
open Go.RowKit Pt

/-- A slice of strings lies in memory. -/
def Strs (c : Cl) (A : Option Addr) (l : List (List UInt8)) : Prop := ∀ i n, l[i]? = some n → ∃ g o, A = some ⟨g, o, none⟩ ∧ c ⟨g, o + i, none⟩ = some (.string ⟨n.toArray⟩)
theorem Strs.keep {c c' : Cl} (h : c.le c') {A : Option Addr} {l : List (List UInt8)} (hs : Strs c A l) : Strs c' A l := fun i n hi => by
  obtain ⟨g, o, h1, h2⟩ := hs i n hi
  exact ⟨g, o, h1, h _ _ h2⟩

def Pathing (w : World) (l : List (List UInt8)) (o v : Value) (wr : World) : Prop :=
  ∃ j : Nat, j ≤ l.length ∧ v = .int .i64 j ∧ o = .string ⟨(text (l.take j)).toArray⟩ ∧ Below w.heap.size w wr
def Naming (w : World) (out n : List UInt8) (o v : Value) (wr : World) : Prop :=
  ∃ k : Nat, k ≤ n.length ∧ v = .int .i64 k ∧ o = .string ⟨(out ++ name (n.take k)).toArray⟩ ∧ Below w.heap.size w wr

theorem name_take_len (n : List UInt8) (k : Nat) : (name (n.take k)).length ≤ (name n).length := by
  have e : name n = name (n.take k) ++ name (n.drop k) := by rw [← name_append, List.take_append_drop]
  rw [e, List.length_append]; omega
theorem name_ge (n : List UInt8) : n.length ≤ (name n).length := by
  induction n with
  | nil => simp [name]
  | cons c n ih =>
    have e : name (c :: n) = esc c ++ name n := by simp [name]
    rw [e, List.length_append, List.length_cons]
    have := esc_len c
    omega
theorem text_take_len (l : List (List UInt8)) (j : Nat) (h : j < l.length) : (text (l.take j)).length + (1 + (name l[j]).length) ≤ (text l).length := by
  have e : text l = text (l.take (j + 1)) ++ text (l.drop (j + 1)) := by rw [← text_append, List.take_append_drop]
  rw [e, text_take l j h]
  simp only [List.length_append, List.length_cons]; omega

/-- 1, if two lists of names are the same; else 0. -/
def alike (l m : List (List UInt8)) : Int := if l = m then 1 else 0
theorem alike_eq {l m : List (List UInt8)} (h : l = m) : alike l m = 1 := if_pos h
theorem alike_ne {l m : List (List UInt8)} (h : ¬ l = m) : alike l m = 0 := if_neg h
/-- How far two lists of names are the same. -/
def Matching (w : World) (l m : List (List UInt8)) (v : Value) (wr : World) : Prop :=
  ∃ j : Nat, j ≤ l.length ∧ v = .int .i64 j ∧ l.take j = m.take j ∧ Below w.heap.size w wr

end Go.Proofs.Ytmdpjhcghdjmmaa

