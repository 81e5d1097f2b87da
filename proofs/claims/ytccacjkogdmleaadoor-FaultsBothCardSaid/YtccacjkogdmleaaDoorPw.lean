/- Pw: Pw Py Pz, in one text. -/
import Derived.Test.YtccacjkogdmleaaDoorPq
import Derived.Test.YtccacjkogdmleaaDoorMr
import Derived.BigQuiet
import Derived.Deep.RegionLaw
/- The walks of layer 6 (ptr): the document's Get. -/
namespace Go.Proofs.YtccacjkogdmleaaDoor
open Go.RowKit Pt Js

theorem get_cons (k : Int) (b : Bool) (n : Nm.Num) (s : List UInt8) (l : List Vl) (m : List Js.Mem) (nm : List UInt8) (ns : List (List UInt8)) : get (.mk k b n s l m) (nm :: ns) =
    if k = 4 then
      (match l[(index nm l.length false).1]? with
      | some x => if (index nm l.length false).2 = true then get x ns else none
      | none => none)
    else match (Vl.mk k b n s l m).find nm with
      | some x => get x ns
      | none => none := by
  rfl
theorem Blk.drewN {w : World} {g : Nat} {t : TypeId} {cs : Array Value} (h : Blk w g t cs) (n : Nat) : Blk (w.drewN n) g t cs := h
theorem sizeL_at {l : List Vl} {i : Nat} (h : i < l.length) : l[i].size ≤ sizeL l := by
  have h1 := sizeL_take l i h
  have h2 := sizeL_le l (i + 1)
  omega
/-- What Get tells: the value, or none. -/
def GetPost (c : Cl) (r : Option Vl) (w : World) (e : Ending) (w' : World) : Prop :=
  Below w.heap.size w w' ∧ ((∃ u y, r = some u ∧ e = .returned (.tuple #[y, .bool true]) ∧ u.In c y) ∨ (r = none ∧ ∃ y, e = .returned (.tuple #[y, .bool false]) ∧ Ps.mkN.In c y))
end Go.Proofs.YtccacjkogdmleaaDoor

/- The walks of layer 6 (ptr): the document's Find, over a reading. -/
namespace Go.Proofs.YtccacjkogdmleaaDoor
open Go.RowKit Pt Js

/-- What Find tells, over a reading. -/
def FindPostC (c : Cl) (r : Option Vl) (w : World) (e : Ending) (w' : World) : Prop :=
  ∃ x, e = .returned (.tuple #[x, .bool r.isSome]) ∧ (r.getD none0).In c x ∧ Below w.heap.size w w'
theorem FindPostC.no {c : Cl} {r : Option Vl} {w w' : World} (h : r = none) (hb : Below w.heap.size w w') : FindPostC c r w (.returned (.tuple #[zeroV, .bool false])) w' := by
  subst h; exact ⟨_, rfl, zero_in _, hb⟩
theorem FindPostC.yes {c : Cl} {r : Option Vl} {u : Vl} {w w' : World} {x : Value} (h : r = some u) (hx : u.In c x) (hb : Below w.heap.size w w') : FindPostC c r w (.returned (.tuple #[x, .bool true])) w' := by
  subst h; exact ⟨_, rfl, hx, hb⟩

end Go.Proofs.YtccacjkogdmleaaDoor

/- The walks of layer 6 (ptr): the document's Get, of a member; Get, whole. -/
namespace Go.Proofs.YtccacjkogdmleaaDoor
open Go.RowKit Pt Js
theorem Blk.set8o {w : World} {g h : Nat} {t : TypeId} {cs : Array Value} (hb : Blk w g t cs) (hn : g ≠ h) (v0 v1 v2 v3 v4 v5 v6 v7 : Value) : Blk (Go.Proofs.YtccacjkogdmleaaDoor.set8 w h v0 v1 v2 v3 v4 v5 v6 v7) g t cs := by
  unfold Blk
  rw [heap_set8 _ _ _ hn]
  exact hb
theorem sizeM_at {m : List Js.Mem} {p : Js.Mem} (h : p ∈ m) : p.2.size ≤ sizeM m := by
  obtain ⟨i, hi, rfl⟩ := List.getElem_of_mem h
  have h1 := sizeM_take m i hi
  have h2 := sizeM_le m (i + 1)
  omega
theorem find_size {v u : Vl} {key : List UInt8} (h : v.find key = some u) : u.size ≤ v.size := by
  obtain ⟨k, b, n, s, l, m⟩ := v
  unfold Vl.find at h
  simp only at h
  split at h
  · unfold Js.find at h
    obtain ⟨p, hp, rfl⟩ := Option.map_eq_some_iff.1 h
    have := sizeM_at (List.mem_of_find?_eq_some hp)
    simp only [Vl.size]
    omega
  · cases h

end Go.Proofs.YtccacjkogdmleaaDoor


