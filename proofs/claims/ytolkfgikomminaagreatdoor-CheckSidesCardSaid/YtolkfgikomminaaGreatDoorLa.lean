/- La: La Lb Lc, in one text. -/
import Derived.Test.YtolkfgikomminaaGreatDoorRows
import Derived.Test.YtolkfgikomminaaGreatDoorVb
import Derived.WalkKit
import Derived.WalkSpells
import Derived.WalkLawsBesides
import Derived.Deep.QuietTactic
import Derived.BigQuiet
import Derived.RegionTactic
import Derived.Lib.AppendZeros
import Derived.StillTailTactics
import Derived.Deep.RegionWith
import Derived.Test.YtolkfgikomminaaGreatDoorMg
import Derived.Test.YtolkfgikomminaaGreatDoorJa
namespace Go.Proofs.YtolkfgikomminaaGreatDoor
open Go.RowKit Js

theorem slice_of_own {w : World} {B : Nat} {e : TypeId} {size : Nat} {v : Value} {n : Nat} {xs : List Value} (h : w.ownsRow B e size v n xs) : ∃ A c, v = .slice A n c := by
 rcases h.2 with ⟨rfl, rfl⟩ | ⟨g, cap, cur, rfl, _⟩
 ·exact ⟨_, _, rfl⟩
 ·exact ⟨_, _, rfl⟩
abbrev zero8x : Array Value := #[.int .i64 0, .bool false, .bool false, .string ⟨#[]⟩, .int .i64 0, .string ⟨#[]⟩, .slice none 0 0, .slice none 0 0]
theorem info_of {P : Program} {t : TypeId} {z : Value} {s b : Nat} (h : (P.info? t).map (fun i => (i.zero, i.size, i.bytes)) = some (some z, s, b)) : ∃ i, P.info? t = some i ∧ i.zero = some z ∧ i.size = s ∧ i.bytes = b := by
 cases hq : P.info? t with
 | none => rw [hq] at h; cases h
 | some i =>
  rw [hq] at h
  simp only [Option.map_some, Option.some.injEq, Prod.mk.injEq] at h
  exact ⟨i, rfl, h.1, h.2.1, h.2.2⟩
theorem info8x : ∃ i, Tryz.prog.info? 31 = some i ∧ i.zero = some (.agg zero8x) ∧ i.size = 8 ∧ i.bytes = 112 := info_of (by kernel_rfl)
def SrcX (w : World) (A : Option Addr) (n : Nat) (news : List Value) : Prop :=
 (A = none → n = 0) ∧ ∀ ad, A = some ad → ∀ (j : Nat) u, news[j]? = some u → w.cell? (ad.add j) = some u
theorem SrcX.keep {w w' : World} {A : Option Addr} {n : Nat} {news : List Value} (h : SrcX w A n news) (hb : Below w.heap.size w w') : SrcX w' A n news :=
 ⟨h.1, fun ad ha j u hu => by
  have hc := h.2 ad ha j u hu
  rw [hb.cell (World.block_lt_of_cell? w _ hc)]; exact hc⟩
theorem run_append_none_any {P : Program} (w : World) (base : Nat) (t ty e : TypeId) (i : TypeInfo) (size : Nat) (ht : P.underlying t = some (.slice e)) (hi : P.info? e = some i)
  (v : Value) (n : Nat) (xs : List Value) (hown : w.ownsRow base e size v n xs) (c : Nat) :
  (Builtin.append_ #[t, t] ty #[v, .slice none 0 c]).run P w = .ok v w := by
 rcases hown.2 with ⟨rfl, rfl⟩ | ⟨g, cap, cur, rfl, _, _, hnc, _⟩
 ·simp [Builtin.append_, run_underlying ht, sizeOf, typeInfo, hi, Builtin.lenOf, Builtin.firstCells]
 ·simp [Builtin.append_, run_underlying ht, sizeOf, typeInfo, hi, Builtin.lenOf, Builtin.firstCells, hnc, storeCells]
theorem wpList_append_srcx {P : Program} (w : World) {ops : Array Oper} {rest : List Oper} {o : Oper} {a : Act} {Q : Exit → Act → World → Prop} (hgd : o.guard = none) (s x : Operand) (t : TypeId)
  (ho : o.op = .call { callee := .builtin .append, args := #[s, x], argTypes := #[t, t] })
  (base : Nat) (e : TypeId) (i : TypeInfo) (z : Value) (size bytes : Nat) (ht : P.underlying t = some (.slice e)) (hi : P.info? e = some i) (hz : i.zero = some z)
  (hsize : i.size = size) (hby : i.bytes = bytes) (hzs : z.cells.size = size) (hsz : 0 < size)
  (v : Value) (n : Nat) (xs : List Value) (hs : a.eval s = v) (hown : w.ownsRow base e size v n xs)
  (A : Option Addr) (m c : Nat) (news : List Value) (hx : a.eval x = .slice A m c) (hl : news.length = m * size) (hsrc : SrcX w A m news) (h1 : ∀ u ∈ news, u.oneCell' = true)
  (h63 : n + m ≤ maxLen) (hbytes : (n + m) * bytes ≤ 140737488355328) (hbase : base ≤ w.heap.size) (N : Nat) (hN : n + m = N)
  (h : ∀ A' c' w', w'.ownsRow base e size (.slice A' N c') N (xs ++ news) → w.grownBy w' v.ownBlock → wpList P ops Q rest (a.put o.dst (.slice A' N c')) w') :
  wpList P ops Q (o :: rest) a w := by
 refine wpList_plain hgd fun K hK => ?_
 subst hN
 obtain ⟨v', w', hrun, k1, k2⟩ : ∃ v' w', (Builtin.append_ #[t, t] o.type #[v, .slice A m c]).run P w = .ok v' w' ∧ w'.ownsRow base e size v' (n + m) (xs ++ news) ∧ w.grownBy w' v.ownBlock := by
  cases A with
  | none =>
   have h0 := hsrc.1 rfl
   subst h0
   have hn : news = [] := List.eq_nil_of_length_eq_zero (by rw [hl, Nat.zero_mul])
   subst hn
   exact ⟨v, w, run_append_none_any w base t o.type e i size ht hi v n xs hown c, by simpa using hown, World.grownBy.refl w _⟩
  | some ad =>
   obtain ⟨v', w', r1, r2, r3, _, r5⟩ := run_append_own_at (P := P) w base t o.type e i z size bytes ht hi hz hsize hby hzs hsz v n xs hown ad m c news hl (hsrc.2 ad rfl) h1 h63 hbytes hbase
   exact ⟨v', w', r1, r2, r3⟩
 obtain ⟨A', c', rfl⟩ := slice_of_own k1
 unfold Oper.wp
 simp [execOp, ho, resolve, invoke, builtin, hs, hx, hrun, Result.andThen]
 exact hK _ _ (h A' c' w' k1 k2)

def NewV (w : World) (N : Nat) (flat : List Value) (e : Ending) (w' : World) : Prop :=
 ∃ A c, e = .returned (.slice A N c) ∧ w'.ownsRow w.heap.size 31 8 (.slice A N c) N flat ∧ Below w.heap.size w w'

end Go.Proofs.YtolkfgikomminaaGreatDoor

namespace Go.Proofs.YtolkfgikomminaaGreatDoor
open Go.RowKit Js
theorem on_all7 (w : World) (S : Nat → Prop) : Cl.le (w.on S) w.cell? := fun _ _ hp => (on_some.1 hp).2
def FlatM (c : Cl) (m : List Js.Mem) (flat : List Value) : Prop :=
 flat.length = m.length * 9 ∧ (∀ u ∈ flat, u.oneCell' = true) ∧ ∀ i p, m[i]? = some p → ∃ y, p.2.In c y ∧ flat[i * 9]? = some (.string ⟨p.1.toArray⟩) ∧ ∀ (j : Nat) u, y.cells[j]? = some u → flat[i * 9 + 1 + j]? = some u
def FlatV (c : Cl) (l : List Vl) (flat : List Value) : Prop :=
 flat.length = l.length * 8 ∧ (∀ u ∈ flat, u.oneCell' = true) ∧ ∀ i v, l[i]? = some v → ∃ y, v.In c y ∧ ∀ (j : Nat) u, y.cells[j]? = some u → flat[i * 8 + j]? = some u
theorem FlatM.nil (c : Cl) : FlatM c [] [] := ⟨rfl, (fun u h => by cases h), fun i p h => by simp at h⟩
theorem FlatV.nil (c : Cl) : FlatV c [] [] := ⟨rfl, (fun u h => by cases h), fun i p h => by simp at h⟩
theorem FlatM.keep {c c' : Cl} (hc : c.le c') {m : List Js.Mem} {f : List Value} (h : FlatM c m f) : FlatM c' m f :=
 ⟨h.1, h.2.1, fun i p hi => by obtain ⟨y, h1, h2, h3⟩ := h.2.2 i p hi; exact ⟨y, In.keep hc _ _ h1, h2, h3⟩⟩
theorem FlatV.keep {c c' : Cl} (hc : c.le c') {l : List Vl} {f : List Value} (h : FlatV c l f) : FlatV c' l f :=
 ⟨h.1, h.2.1, fun i p hi => by obtain ⟨y, h1, h2⟩ := h.2.2 i p hi; exact ⟨y, In.keep hc _ _ h1, h2⟩⟩
theorem left_get {f g : List Value} {i : Nat} {u : Value} (h : f[i]? = some u) : (f ++ g)[i]? = some u := by
 rw [List.getElem?_append_left (List.getElem?_eq_some_iff.1 h).1]; exact h
theorem FlatM.append {c : Cl} {m n : List Js.Mem} {f g : List Value} (h : FlatM c m f) (k : FlatM c n g) : FlatM c (m ++ n) (f ++ g) := by
 refine ⟨by rw [List.length_append, List.length_append, h.1, k.1, Nat.add_mul], fun u hu => (List.mem_append.1 hu).elim (h.2.1 u) (k.2.1 u), fun i p hi => ?_⟩
 by_cases hlt : i < m.length
 ·rw [List.getElem?_append_left hlt] at hi
  obtain ⟨y, h1, h2, h3⟩ := h.2.2 i p hi
  exact ⟨y, h1, left_get h2, fun j u hj => left_get (h3 j u hj)⟩
 ·rw [List.getElem?_append_right (by omega)] at hi
  obtain ⟨y, h1, h2, h3⟩ := k.2.2 _ p hi
  have e : ∀ r, i * 9 + r = f.length + ((i - m.length) * 9 + r) := fun r => by rw [h.1, Nat.sub_mul]; have : m.length * 9 ≤ i * 9 := Nat.mul_le_mul_right _ (by omega); omega
  refine ⟨y, h1, ?_, fun j u hj => ?_⟩
  ·have := e 0
   rw [Nat.add_zero, Nat.add_zero] at this
   rw [this, List.getElem?_append_right (by omega), Nat.add_sub_cancel_left]; exact h2
  ·rw [Nat.add_assoc, e, List.getElem?_append_right (by omega), Nat.add_sub_cancel_left, ← Nat.add_assoc]; exact h3 j u hj
theorem FlatV.append {c : Cl} {m n : List Vl} {f g : List Value} (h : FlatV c m f) (k : FlatV c n g) : FlatV c (m ++ n) (f ++ g) := by
 refine ⟨by rw [List.length_append, List.length_append, h.1, k.1, Nat.add_mul], fun u hu => (List.mem_append.1 hu).elim (h.2.1 u) (k.2.1 u), fun i p hi => ?_⟩
 by_cases hlt : i < m.length
 ·rw [List.getElem?_append_left hlt] at hi
  obtain ⟨y, h1, h3⟩ := h.2.2 i p hi
  exact ⟨y, h1, fun j u hj => left_get (h3 j u hj)⟩
 ·rw [List.getElem?_append_right (by omega)] at hi
  obtain ⟨y, h1, h3⟩ := k.2.2 _ p hi
  have e : ∀ r, i * 8 + r = f.length + ((i - m.length) * 8 + r) := fun r => by rw [h.1, Nat.sub_mul]; have : m.length * 8 ≤ i * 8 := Nat.mul_le_mul_right _ (by omega); omega
  refine ⟨y, h1, fun j u hj => ?_⟩
  rw [e, List.getElem?_append_right (by omega), Nat.add_sub_cancel_left]; exact h3 j u hj
theorem cells8 {c : Cl} {v : Vl} {y : Value} (h : v.In c y) : y.cells.toList.length = 8 ∧ ∀ u ∈ y.cells.toList, u.oneCell' = true := by
 obtain ⟨k1, b1, n1, g1, x1, s1, A1, l1, p1, B1, m1, d1, rfl⟩ := In.cells h
 refine ⟨rfl, fun u hu => ?_⟩
 simp only [Value.cells, List.mem_cons, List.not_mem_nil, or_false] at hu
 rcases hu with rfl | rfl | rfl | rfl | rfl | rfl | rfl | rfl <;> rfl
theorem FlatM.one {c : Cl} {p : Js.Mem} {y : Value} (h : p.2.In c y) : FlatM c [p] (.string ⟨p.1.toArray⟩ :: y.cells.toList) := by
 obtain ⟨h8, h1⟩ := cells8 h
 refine ⟨by simp only [List.length_cons, h8, List.length_nil], fun u hu => ?_, fun i q hi => ?_⟩
 ·rcases List.mem_cons.1 hu with rfl | hu
  ·rfl
  ·exact h1 u hu
 ·have hl := (List.getElem?_eq_some_iff.1 hi).1
  obtain rfl : i = 0 := by simpa using hl
  obtain rfl : p = q := by simpa using hi
  refine ⟨y, h, rfl, fun j u hj => ?_⟩
  rw [show 0 * 9 + 1 + j = j + 1 by omega, List.getElem?_cons_succ, Array.getElem?_toList]; exact hj
theorem FlatV.one {c : Cl} {v : Vl} {y : Value} (h : v.In c y) : FlatV c [v] y.cells.toList := by
 obtain ⟨h8, h1⟩ := cells8 h
 refine ⟨by simp only [h8, List.length_cons, List.length_nil], h1, fun i q hi => ?_⟩
 have hl := (List.getElem?_eq_some_iff.1 hi).1
 obtain rfl : i = 0 := by simpa using hl
 obtain rfl : v = q := by simpa using hi
 refine ⟨y, h, fun j u hj => ?_⟩
 rw [Nat.zero_mul, Nat.zero_add, Array.getElem?_toList]; exact hj
theorem cells8_at {c : Cl} {y : Value} {g o : Nat} (hc : CellsAt c g o y) (j : Nat) (u : Value) (hj : y.cells.toList[j]? = some u) : c ⟨g, o + j, none⟩ = some u :=
 hc j u (by rw [Array.getElem?_toList] at hj; exact hj)
theorem FlatM.of {c : Cl} {g : Nat} : ∀ (m : List Js.Mem) (o : Nat), (∀ i p, m[i]? = some p → ∃ y, p.2.In c y ∧ c ⟨g, o + i * 9, none⟩ = some (.string ⟨p.1.toArray⟩) ∧ CellsAt c g (o + i * 9 + 1) y) →
  ∃ f, FlatM c m f ∧ ∀ (j : Nat) u, f[j]? = some u → c ⟨g, o + j, none⟩ = some u
 | [], o, _ => ⟨[], FlatM.nil c, fun j u h => by simp at h⟩
 | p :: m, o, h => by
  obtain ⟨y, h1, h2, h3⟩ := h 0 p rfl
  obtain ⟨f, k1, k2⟩ := FlatM.of m (o + 9) (fun i q hi => by
   obtain ⟨z, q1, q2, q3⟩ := h (i + 1) q (by simpa using hi)
   rw [show o + (i + 1) * 9 = o + 9 + i * 9 by omega] at q2 q3
   exact ⟨z, q1, q2, q3⟩)
  refine ⟨(.string ⟨p.1.toArray⟩ :: y.cells.toList) ++ f, (FlatM.one h1).append k1, fun j u hj => ?_⟩
  obtain ⟨h8, _⟩ := cells8 h1
  rw [Nat.zero_mul, Nat.add_zero] at h2 h3
  by_cases hlt : j < 9
  ·rw [List.getElem?_append_left (by simp only [List.length_cons, h8]; omega)] at hj
   cases j with
   | zero =>
    rw [List.getElem?_cons_zero] at hj; injection hj with hj; subst hj; exact h2
   | succ j =>
    rw [List.getElem?_cons_succ] at hj
    rw [show o + (j + 1) = o + 1 + j by omega]
    exact cells8_at h3 j u hj
  ·rw [List.getElem?_append_right (by simp only [List.length_cons, h8]; omega)] at hj
   simp only [List.length_cons, h8] at hj
   have := k2 _ u hj
   rw [show o + 9 + (j - (8 + 1)) = o + j by omega] at this
   exact this
theorem FlatV.of {c : Cl} {g : Nat} : ∀ (m : List Vl) (o : Nat), (∀ i p, m[i]? = some p → ∃ y, p.In c y ∧ CellsAt c g (o + i * 8) y) →
  ∃ f, FlatV c m f ∧ ∀ (j : Nat) u, f[j]? = some u → c ⟨g, o + j, none⟩ = some u
 | [], o, _ => ⟨[], FlatV.nil c, fun j u h => by simp at h⟩
 | p :: m, o, h => by
  obtain ⟨y, h1, h3⟩ := h 0 p rfl
  obtain ⟨f, k1, k2⟩ := FlatV.of m (o + 8) (fun i q hi => by
   obtain ⟨z, q1, q3⟩ := h (i + 1) q (by simpa using hi)
   rw [show o + (i + 1) * 8 = o + 8 + i * 8 by omega] at q3
   exact ⟨z, q1, q3⟩)
  refine ⟨y.cells.toList ++ f, (FlatV.one h1).append k1, fun j u hj => ?_⟩
  obtain ⟨h8, _⟩ := cells8 h1
  rw [Nat.zero_mul, Nat.add_zero] at h3
  by_cases hlt : j < 8
  ·rw [List.getElem?_append_left (by rw [h8]; exact hlt)] at hj
   exact cells8_at h3 j u hj
  ·rw [List.getElem?_append_right (by rw [h8]; omega), h8] at hj
   have := k2 _ u hj
   rw [show o + 8 + (j - 8) = o + j by omega] at this
   exact this
theorem add_at (g o j : Nat) : (⟨g, o, none⟩ : Addr).add j = ⟨g, o + j, none⟩ := by
 unfold Addr.add
 by_cases hj0 : j = 0 <;> simp [hj0]

def baseOf (A : Option Addr) (d l k : Nat) : Option Addr := if d = l then A else A.map (·.add (l * k))

theorem SlM.flat {w : World} {S : Nat → Prop} {A : Option Addr} {m : List Js.Mem} (h : SlM (w.on S) A m) : ∃ f, FlatM (w.on S) m f ∧ SrcX w A m.length f := by
 cases m with
 | nil => exact ⟨[], FlatM.nil _, fun _ => rfl, fun ad _ j u hj => by simp at hj⟩
 | cons p m =>
  obtain ⟨g, o, _, rfl, _, _, _⟩ := h 0 p rfl
  obtain ⟨f, k1, k2⟩ := FlatM.of (c := w.on S) (g := g) (p :: m) o (fun i q hi => by
   obtain ⟨g', o', y, e, q1, q2, q3⟩ := h i q hi
   injection e with e; injection e with e1 e2; subst e1 e2
   exact ⟨y, q1, q2, q3⟩)
  exact ⟨f, k1, (fun e => by cases e), fun ad e j u hj => by injection e with e; subst e; rw [add_at]; exact on_all7 _ _ _ _ (k2 j u hj)⟩
theorem FlatM.sl {w : World} {B : Nat} {A : Option Addr} {N c : Nat} {r : Cl} {m : List Js.Mem} {f : List Value} (h : FlatM r m f) (hr : ∀ g j u, B ≤ g → w.cell? ⟨g, j, none⟩ = some u → r ⟨g, j, none⟩ = some u) (hown : w.ownsRow B 91 9 (.slice A N c) N f) : SlM r A m := fun i p hi => by
 obtain ⟨y, h1, h2, h3⟩ := h.2.2 i p hi
 have hil := (List.getElem?_eq_some_iff.1 hi).1
 rcases hown.2 with ⟨_, h0⟩ | ⟨g, cap, cur, e, hbg, _⟩
 ·have := hown.1; have := h.1; omega
 ·injection e with e1 e2 e3
  subst e1
  have hc := hown.cells (g := g) rfl
  refine ⟨g, 0, y, rfl, h1, ?_, fun j u hj => ?_⟩
  ·have := hc _ _ h2; rw [add_at] at this; exact hr _ _ _ hbg this
  ·have := hc _ _ (h3 j u hj); rw [add_at] at this; rw [show 0 + i * 9 + 1 + j = 0 + (i * 9 + 1 + j) by omega]; exact hr _ _ _ hbg this
theorem SlM.take {c : Cl} {A : Option Addr} {m : List Js.Mem} (h : SlM c A m) (i : Nat) : SlM c A (m.take i) := fun k p hk => by
 have hkl := (List.getElem?_eq_some_iff.1 hk).1
 rw [List.getElem?_take_of_lt (by simp at hkl; omega)] at hk
 exact h k p hk
theorem SlM.drop {c : Cl} {A : Option Addr} {m : List Js.Mem} (h : SlM c A m) {j d : Nat} (hd : m.length ≤ d) : SlM c (baseOf A d j 9) (m.drop j) := fun k p hk => by
 rw [List.getElem?_drop] at hk
 have hkl := (List.getElem?_eq_some_iff.1 hk).1
 obtain ⟨g, o, y, rfl, h1, h2, h3⟩ := h _ p hk
 refine ⟨g, o + j * 9, y, ?_, h1, ?_, ?_⟩
 ·unfold baseOf
  rw [if_neg (by omega), Option.map_some, add_at]
 ·rw [show o + j * 9 + k * 9 = o + (j + k) * 9 by omega]; exact h2
 ·rw [show o + j * 9 + k * 9 = o + (j + k) * 9 by omega]; exact h3
theorem SlV_flat {w : World} {S : Nat → Prop} {A : Option Addr} {m : List Vl} (h : SlL (w.on S) A m) : ∃ f, FlatV (w.on S) m f ∧ SrcX w A m.length f := by
 cases m with
 | nil => exact ⟨[], FlatV.nil _, fun _ => rfl, fun ad _ j u hj => by simp at hj⟩
 | cons p m =>
  obtain ⟨g, o, _, rfl, _, _⟩ := h 0 p rfl
  obtain ⟨f, k1, k2⟩ := FlatV.of (c := w.on S) (g := g) (p :: m) o (fun i q hi => by
   obtain ⟨g', o', y, e, q1, q3⟩ := h i q hi
   injection e with e; injection e with e1 e2; subst e1 e2
   exact ⟨y, q1, q3⟩)
  exact ⟨f, k1, (fun e => by cases e), fun ad e j u hj => by injection e with e; subst e; rw [add_at]; exact on_all7 _ _ _ _ (k2 j u hj)⟩
theorem FlatV.sl {w : World} {B : Nat} {A : Option Addr} {N c : Nat} {r : Cl} {m : List Vl} {f : List Value} (h : FlatV r m f) (hr : ∀ g j u, B ≤ g → w.cell? ⟨g, j, none⟩ = some u → r ⟨g, j, none⟩ = some u) (hown : w.ownsRow B 31 8 (.slice A N c) N f) : SlL r A m := fun i p hi => by
 obtain ⟨y, h1, h3⟩ := h.2.2 i p hi
 have hil := (List.getElem?_eq_some_iff.1 hi).1
 rcases hown.2 with ⟨_, h0⟩ | ⟨g, cap, cur, e, hbg, _⟩
 ·have := hown.1; have := h.1; omega
 ·injection e with e1 e2 e3
  subst e1
  have hc := hown.cells (g := g) rfl
  refine ⟨g, 0, y, rfl, h1, fun j u hj => ?_⟩
  have := hc _ _ (h3 j u hj); rw [add_at] at this; rw [show 0 + i * 8 + j = 0 + (i * 8 + j) by omega]; exact hr _ _ _ hbg this
theorem SlL.take {c : Cl} {A : Option Addr} {m : List Vl} (h : SlL c A m) (i : Nat) : SlL c A (m.take i) := fun k p hk => by
 have hkl := (List.getElem?_eq_some_iff.1 hk).1
 rw [List.getElem?_take_of_lt (by simp at hkl; omega)] at hk
 exact h k p hk
theorem SlL.drop {c : Cl} {A : Option Addr} {m : List Vl} (h : SlL c A m) {j d : Nat} (hd : m.length ≤ d) : SlL c (baseOf A d j 8) (m.drop j) := fun k p hk => by
 rw [List.getElem?_drop] at hk
 have hkl := (List.getElem?_eq_some_iff.1 hk).1
 obtain ⟨g, o, y, rfl, h1, h3⟩ := h _ p hk
 refine ⟨g, o + j * 8, y, ?_, h1, ?_⟩
 ·unfold baseOf
  rw [if_neg (by omega), Option.map_some, add_at]
 ·rw [show o + j * 8 + k * 8 = o + (j + k) * 8 by omega]; exact h3

end Go.Proofs.YtolkfgikomminaaGreatDoor

namespace Go.Proofs.YtolkfgikomminaaGreatDoor.Ed
open Js Pt
open Ps (less)
end Go.Proofs.YtolkfgikomminaaGreatDoor.Ed
namespace Go.Proofs.YtolkfgikomminaaGreatDoor
open Go.RowKit Js
end Go.Proofs.YtolkfgikomminaaGreatDoor


