/- Plain mathematics of layer 14 (check): which keywords a value fails. -/
import Derived.Test.YtolkfgikomminaaGreatDoorDa
import Derived.Test.YtolkfgikomminaaGreatDoorMb
namespace Go.Proofs.YtolkfgikomminaaGreatDoor.Ow
open Js

def kinds : List (List UInt8) := [[110, 117, 108, 108], [98, 111, 111, 108, 101, 97, 110], [110, 117, 109, 98, 101, 114], [115, 116, 114, 105, 110, 103], [97, 114, 114, 97, 121], [111, 98, 106, 101, 99, 116]]
def kInteger : List UInt8 := [105, 110, 116, 101, 103, 101, 114]
def kFalse : List UInt8 := [102, 97, 108, 115, 101]
def numOf : Vl → Nm.Num
 | .mk _ _ n _ _ _ => n
def boolOf : Vl → Bool
 | .mk _ b _ _ _ _ => b
def listOf : Vl → List Vl
 | .mk _ _ _ _ l _ => l
def whole (n : Nm.Num) : Bool := n.digits.isEmpty || decide (0 ≤ n.exp)
def is (v : Vl) (nm : List UInt8) : Bool := if nm = kInteger then decide (Sh.kindOf v = 2) && whole (numOf v) else kinds.getD (Sh.kindOf v).toNat [] == nm
def among (l : List Vl) (v : Vl) : Bool := l.any fun u => u.same v
def charsGo : Nat → List UInt8 → Nat
 | 0, _ => 0
 | _ + 1, [] => 0
 | f + 1, c :: r => charsGo f ((c :: r).drop (max (St.utf8 (c :: r)) 1)) + 1
def chars (s : List UInt8) : Nat := charsGo s.length s
def dup : List Vl → List Vl → Bool
 | _, [] => false
 | seen, x :: r => among seen x || dup (seen ++ [x]) r
def types (k : Vl) : List Vl := if Sh.kindOf k = 3 then [k] else listOf k
def failsOf : Nat → Vl → Vl → Bool
 | 1, k, v => !(types k).any fun x => is v (Sh.strOf x)
 | 2, k, v => !among (listOf k) v
 | 3, k, v => !k.same v
 | 4, k, v => decide (Sh.kindOf v = 2) && decide (Nm.refCmp (numOf v) (numOf k) < 0)
 | 5, k, v => decide (Sh.kindOf v = 2) && decide (0 < Nm.refCmp (numOf v) (numOf k))
 | 6, k, v => decide (Sh.kindOf v = 3) && decide (Nm.refCmp (Nm.count (chars (Sh.strOf v))) (numOf k) < 0)
 | 7, k, v => decide (Sh.kindOf v = 3) && decide (0 < Nm.refCmp (Nm.count (chars (Sh.strOf v))) (numOf k))
 | 8, k, v => decide (Sh.kindOf v = 4) && decide (Nm.refCmp (Nm.count (listOf v).length) (numOf k) < 0)
 | 9, k, v => decide (Sh.kindOf v = 4) && decide (0 < Nm.refCmp (Nm.count (listOf v).length) (numOf k))
 | 10, k, v => dup [] (listOf v) && boolOf k
 | 11, k, v => decide (Sh.kindOf v = 5) && (listOf k).any fun x => (v.find (Sh.strOf x)).isNone
 | _, _, _ => false
def keys14 : List (List UInt8 × Nat) := [
 ([116, 121, 112, 101], 1),
 ([101, 110, 117, 109], 2),
 ([99, 111, 110, 115, 116], 3),
 ([109, 105, 110, 105, 109, 117, 109], 4),
 ([109, 97, 120, 105, 109, 117, 109], 5),
 ([109, 105, 110, 76, 101, 110, 103, 116, 104], 6),
 ([109, 97, 120, 76, 101, 110, 103, 116, 104], 7),
 ([109, 105, 110, 73, 116, 101, 109, 115], 8),
 ([109, 97, 120, 73, 116, 101, 109, 115], 9),
 ([117, 110, 105, 113, 117, 101, 73, 116, 101, 109, 115], 10),
 ([114, 101, 113, 117, 105, 114, 101, 100], 11)]
def kw14 (nm : List UInt8) : Nat := ((keys14.find? (fun p => p.1 == nm)).map (·.2)).getD 0
def fails (nm : List UInt8) (k v : Vl) : Bool := failsOf (kw14 nm) k v
def own (N : Cm.Node) (v : Vl) : List (List UInt8) :=
 if N.all = true ∧ N.pass = false then [kFalse] else (N.keys.filter fun k => fails k.name k.v v).map (·.name)
def one (nm : List UInt8) (k : Vl) : Cm.Node := ⟨[], false, false, [⟨nm, k, []⟩]⟩
theorem own_one (nm : List UInt8) (k v : Vl) : own (one nm k) v = if fails nm k v = true then [nm] else [] := by
 unfold own one
 rw [if_neg (by simp)]
 simp only [List.filter_cons, List.filter_nil]
 split <;> rfl
theorem own_none (v : Vl) : own ⟨[], false, false, []⟩ v = [] := by
 unfold own
 rw [if_neg (by simp)]
 rfl
theorem own_pass (v : Vl) : own ⟨[], true, true, []⟩ v = [] := by
 unfold own
 rw [if_neg (by simp)]
 rfl

def kConst : List UInt8 := [99, 111, 110, 115, 116]
def kEnum : List UInt8 := [101, 110, 117, 109]
def kMin : List UInt8 := [109, 105, 110, 105, 109, 117, 109]
def kMax : List UInt8 := [109, 97, 120, 105, 109, 117, 109]
def kUniq : List UInt8 := [117, 110, 105, 113, 117, 101, 73, 116, 101, 109, 115]
theorem fails_const (k v : Vl) : fails kConst k v = !k.same v := rfl
theorem fails_enum (k v : Vl) : fails kEnum k v = !among (listOf k) v := rfl
theorem fails_min (k v : Vl) : fails kMin k v = (decide (Sh.kindOf v = 2) && decide (Nm.refCmp (numOf v) (numOf k) < 0)) := rfl
theorem fails_max (k v : Vl) : fails kMax k v = (decide (Sh.kindOf v = 2) && decide (0 < Nm.refCmp (numOf v) (numOf k))) := rfl
theorem fails_uniq (k v : Vl) : fails kUniq k v = (dup [] (listOf v) && boolOf k) := rfl
theorem const_comm (v w : Vl) : fails kConst v w = fails kConst w v := by rw [fails_const, fails_const, same_comm]
theorem num_mk {v : Vl} (hv : v.may = true) (h : Sh.kindOf v = 2) : v = .mk 2 false (numOf v) [] [] [] ∧ Nm.May (numOf v) := by
 obtain ⟨k, b, n, s, l, m⟩ := v
 obtain ⟨_, _, h1, _, h3, h4, h5, h6, _⟩ := may_own hv
 simp only [Sh.kindOf] at h
 subst h
 rw [h1 (by omega), h3 (by omega), h4 (by omega), h5 (by omega)]
 exact ⟨rfl, mayNum_May h6⟩
theorem sides {v w : Vl} (hv : v.may = true) (hw : w.may = true) (h2 : Sh.kindOf v = 2) (k2 : Sh.kindOf w = 2) :
  (fails kMin w v = false ∨ fails kMax w v = false) ∧ ((fails kMin w v = false ∧ fails kMax w v = false) ↔ fails kConst w v = false) := by
 obtain ⟨hv1, hv2⟩ := num_mk hv h2
 obtain ⟨hw1, hw2⟩ := num_mk hw k2
 have hc := Nm.cmp_same _ _ hv2 hw2
 rw [fails_min, fails_max, fails_const, Nm.refCmp_eq _ _ hv2 hw2, h2]
 simp only [decide_true, Bool.true_and, decide_eq_false_iff_not, Bool.not_eq_false']
 refine ⟨by omega, ⟨fun ⟨h, h'⟩ => ?_, fun h => ?_⟩⟩
 ·rw [same_iff, hv1, hw1, (hc.1 (by omega))]
 ·rw [same_iff] at h
  have := hc.2 (by rw [h])
  omega
theorem among_mem {l : List Vl} {v : Vl} (h : v ∈ l) : among l v = true := List.any_eq_true.2 ⟨v, h, same_refl v⟩
theorem dup_last {x : Vl} : ∀ {l seen : List Vl}, x ∈ seen ∨ x ∈ l → dup seen (l ++ [x]) = true
 | [], seen, h => by
  have h := h.resolve_right (by simp)
  rw [List.nil_append, dup, among_mem h]; rfl
 | y :: r, seen, h => by
  rw [List.cons_append, dup, dup_last (l := r) (seen := seen ++ [y])]
  ·simp
  ·rcases h with h | h
   ·exact .inl (by simp [h])
   ·rcases List.mem_cons.1 h with rfl | h
    ·exact .inl (by simp)
    ·exact .inr h
theorem twice {l : List Vl} {x : Vl} (h : l.head? = some x) (b : Bool) : fails kUniq (.mk 1 b Nm.Num.zero [] [] []) (.mk 4 false Nm.Num.zero [] (l ++ [x]) []) = b := by
 rw [fails_uniq, show listOf (.mk 4 false Nm.Num.zero [] (l ++ [x]) []) = l ++ [x] from rfl, dup_last (.inr (List.mem_of_head? h))]
 rfl

end Go.Proofs.YtolkfgikomminaaGreatDoor.Ow

