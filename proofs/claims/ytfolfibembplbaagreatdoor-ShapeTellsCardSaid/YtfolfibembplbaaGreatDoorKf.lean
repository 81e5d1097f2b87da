/- Kf: Kf Kg, in one text. -/
import Derived.Test.YtfolfibembplbaaGreatDoorKa
import Derived.Test.YtfolfibembplbaaGreatDoorPw
import Derived.Test.YtfolfibembplbaaGreatDoorMg
/- The walks of layer 6 (ptr): the program's Find over a reading, within, Get. -/
namespace Go.Proofs.YtfolfibembplbaaGreatDoor.Pt
open Js

/-- What one name means in a value. -/
def stepV : Vl → List UInt8 → Option Vl
  | .mk k b n s l m, nm => if k = 4 then (if (index nm l.length false).2 = true then l[(index nm l.length false).1]? else none) else (Vl.mk k b n s l m).find nm
theorem stepV_mk (k : Int) (b : Bool) (n : Nm.Num) (s : List UInt8) (l : List Vl) (m : List Js.Mem) (nm : List UInt8) :
    stepV (.mk k b n s l m) nm = if k = 4 then (if (index nm l.length false).2 = true then l[(index nm l.length false).1]? else none) else (Vl.mk k b n s l m).find nm := rfl
theorem get_step (v : Vl) (nm : List UInt8) (ns : List (List UInt8)) : get v (nm :: ns) = match stepV v nm with
    | some x => get x ns
    | none => none := by
  obtain ⟨k, b, n, s, l, m⟩ := v
  rw [get_cons, stepV_mk]
  by_cases hk : k = 4
  · rw [if_pos hk, if_pos hk]
    by_cases hi : (index nm l.length false).2 = true
    · rw [if_pos hi]
      cases l[(index nm l.length false).1]? with
      | none => rfl
      | some x => simp only; rw [if_pos hi]
    · rw [if_neg hi]
      cases l[(index nm l.length false).1]? with
      | none => rfl
      | some x => simp only; rw [if_neg hi]
  · rw [if_neg hk, if_neg hk]; rfl
theorem may_el {l : List Vl} (h : mayL l = true) {u : Vl} (hu : u ∈ l) : u.may = true := by
  induction l with
  | nil => cases hu
  | cons v l ih =>
    simp only [mayL, Bool.and_eq_true] at h
    rcases List.mem_cons.1 hu with rfl | hu
    · exact h.1
    · exact ih h.2 hu
theorem may_mem {m : List Js.Mem} (h : mayM m = true) {p : Js.Mem} (hp : p ∈ m) : p.2.may = true := by
  induction m with
  | nil => cases hp
  | cons q m ih =>
    obtain ⟨qk, qv⟩ := q
    simp only [mayM, mayP, Bool.and_eq_true] at h
    rcases List.mem_cons.1 hp with rfl | hp
    · exact h.1.2
    · exact ih h.2 hp
theorem step_may {v u : Vl} {nm : List UInt8} (h : v.may = true) (hu : stepV v nm = some u) : u.may = true ∧ u.size ≤ v.size := by
  obtain ⟨k, b, n, s, l, m⟩ := v
  rw [stepV_mk] at hu
  split at hu
  · split at hu
    · obtain ⟨hi, hl⟩ := List.getElem?_eq_some_iff.1 hu
      subst hl
      refine ⟨may_el (may_own h).2.2.2.2.2.2.2.2.2.1 (List.getElem_mem hi), ?_⟩
      have := sizeL_at hi
      simp only [Vl.size]; omega
    · cases hu
  · refine ⟨?_, find_size hu⟩
    unfold Vl.find at hu
    simp only at hu
    split at hu
    · unfold Js.find at hu
      obtain ⟨p, hp, rfl⟩ := Option.map_eq_some_iff.1 hu
      exact may_mem (may_own h).2.2.2.2.2.2.2.2.2.2.1 (List.mem_of_find?_eq_some hp)
    · cases hu

/-- Keys rise. -/
def Rises : Vl → Prop
  | .mk _ _ _ _ _ m => rises (m.map (·.1)) = true
/-- Keys rise in it, and in whatever a name leads to. -/
structure Steps (M : Vl → Prop) : Prop where
  rises : ∀ v, M v → Rises v
  step : ∀ v u nm, M v → stepV v nm = some u → M u ∧ u.size ≤ v.size
theorem may_steps : Steps (fun v => v.may = true) := ⟨fun v h => by
  obtain ⟨k, b, n, s, l, m⟩ := v
  exact (may_own h).2.2.2.2.2.2.2.2.2.2.2, fun _ _ _ h hu => step_may h hu⟩

end Go.Proofs.YtfolfibembplbaaGreatDoor.Pt
namespace Go.Proofs.YtfolfibembplbaaGreatDoor
open Go.RowKit Pt Js
end Go.Proofs.YtfolfibembplbaaGreatDoor

/- The walks of layer 6 (ptr): the program's Get. -/
namespace Go.Proofs.YtfolfibembplbaaGreatDoor
open Go.RowKit Pt Js

/-- What the program's Get tells: the value, or ErrNone. -/
def PGetPost (c : Cl) (r : Option Vl) (w : World) (e : Ending) (w' : World) : Prop :=
  Below w.heap.size w w' ∧ ((∃ u y, r = some u ∧ e = .returned (.tuple #[y, .nilIface]) ∧ u.In c y) ∨ (r = none ∧ ∃ y, e = .returned (.tuple #[y, .iface 45 (.int .i64 6)]) ∧ Ps.mkN.In c y))

/-- What the region of within leaves. -/
def FoundG (c : Cl) (r : Option Vl) (rb : Bool) (j : Nat) (w2 : World) (v8 v9 v12 : Value) (wc : World) : Prop :=
  ∃ (p8 : Nat) (cs : Array Value), v12 = .int .i64 j ∧ v8 = .pointer (some ⟨p8, 0, none⟩) ∧ v9 = .bool rb ∧ Blk wc p8 28 cs ∧ (r.getD none0).In c (.agg cs) ∧ w2.heap.size ≤ p8 ∧ Below w2.heap.size w2 wc

/-- How far Get has come. -/
structure Getting0 (M : Vl → Prop) (c : Cl) (v : Vl) (ns : List (List UInt8)) (w : World) (j : Nat) (u : Vl) (cs : Array Value) (wr : World) : Prop where
  hj : j ≤ ns.length
  blk : Blk wr w.heap.size 28 cs
  zero : Blk wr (w.heap.size + 1) 28 #[.int .i64 0, .bool false, .bool false, .string ⟨#[]⟩, .int .i64 0, .string ⟨#[]⟩, .slice none 0 0, .slice none 0 0]
  lies : u.In c (.agg cs)
  res : get v ns = get u (ns.drop j)
  may : M u
  size : u.size ≤ 1000000
  below : Below w.heap.size w wr
def Getting (M : Vl → Prop) (c : Cl) (v : Vl) (ns : List (List UInt8)) (w : World) (v12 : Value) (wr : World) : Prop :=
  ∃ (j : Nat) (u : Vl) (cs : Array Value), v12 = .int .i64 j ∧ Getting0 M c v ns w j u cs wr

end Go.Proofs.YtfolfibembplbaaGreatDoor


