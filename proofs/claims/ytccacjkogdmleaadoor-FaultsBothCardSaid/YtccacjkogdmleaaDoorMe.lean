/- Me: Me Mf, in one text. -/
import Derived.Test.YtccacjkogdmleaaDoorRows
import Derived.Test.YtccacjkogdmleaaDoorVb
import Derived.WalkKit
import Derived.WalkSpells
import Derived.WalkLawsBesides
import Derived.Deep.QuietTactic
import Derived.BigQuiet
import Derived.RegionTactic
import Derived.Test.YtccacjkogdmleaaDoorWa
/- Me: Vg Vh Vc Vd Ve Vf, in one text. -/
/- The walks of layer 3: the program's Same, and slices.EqualFunc that it calls. -/
namespace Go.Proofs.YtccacjkogdmleaaDoor
open Go.RowKit Js

/-- A call that tells whether two values are the same. -/
def Tells2 (f : Nat) (p : Vl → Bool) : Prop :=
  ∀ v v' x x' w, p v = true → v.In w.cell? x → v'.In w.cell? x' → Calls Tryd.prog f #[x, x'] w fun e w' => e = .returned (.bool (v.same v')) ∧ Below w.heap.size w w'

def Equaling (w : World) (l l' : List Vl) (i : Value) (wr : World) : Prop :=
  ∃ j : Nat, j ≤ l.length ∧ i = .int .i64 j ∧ sameL l l' = sameL (l.drop j) (l'.drop j) ∧ Below w.heap.size w wr

theorem sameL_len {l l' : List Vl} (h : ¬ l.length = l'.length) : sameL l l' = false := by
  cases hs : sameL l l' with
  | false => rfl
  | true =>
    exfalso
    induction l generalizing l' with
    | nil => cases l' <;> simp_all [sameL]
    | cons v l ih =>
      cases l' with
      | nil => simp [sameL] at hs
      | cons v' l' =>
        simp only [sameL, Bool.and_eq_true] at hs
        exact ih (by simpa using h) hs.2

end Go.Proofs.YtccacjkogdmleaaDoor

/- The walks of layer 3: the program's sameMember, and slices.EqualFunc over members. -/
namespace Go.Proofs.YtccacjkogdmleaaDoor
open Go.RowKit Js

def EqualingM (w : World) (l l' : List Js.Mem) (i : Value) (wr : World) : Prop :=
  ∃ j : Nat, j ≤ l.length ∧ i = .int .i64 j ∧ sameM l l' = sameM (l.drop j) (l'.drop j) ∧ Below w.heap.size w wr

theorem sameM_len {l l' : List Js.Mem} (h : ¬ l.length = l'.length) : sameM l l' = false := by
  cases hs : sameM l l' with
  | false => rfl
  | true =>
    exfalso
    induction l generalizing l' with
    | nil => cases l' <;> simp_all [sameM]
    | cons v l ih =>
      cases l' with
      | nil => simp [sameM] at hs
      | cons v' l' =>
        simp only [sameM, Bool.and_eq_true] at hs
        exact ih (by simpa using h) hs.2

end Go.Proofs.YtccacjkogdmleaaDoor

/- The walks of layer 3: the document's Size. (By gen_fold.py.) -/
namespace Go.Proofs.YtccacjkogdmleaaDoor
open Go.RowKit Js
end Go.Proofs.YtccacjkogdmleaaDoor

/- The walks of layer 3: the program's Size. (By gen_fold.py.) -/
namespace Go.Proofs.YtccacjkogdmleaaDoor
open Go.RowKit Js
end Go.Proofs.YtccacjkogdmleaaDoor

/- The walks of layer 3: the document's Depth. (By gen_fold.py.) -/
namespace Go.Proofs.YtccacjkogdmleaaDoor
open Go.RowKit Js
end Go.Proofs.YtccacjkogdmleaaDoor

/- The walks of layer 3: the program's Depth. (By gen_fold.py.) -/
namespace Go.Proofs.YtccacjkogdmleaaDoor
open Go.RowKit Js
end Go.Proofs.YtccacjkogdmleaaDoor

/- Mf: Vi Rc, in one text. -/
/- The walk of layer 3: the program's Same. -/
namespace Go.Proofs.YtccacjkogdmleaaDoor
open Go.RowKit Js
end Go.Proofs.YtccacjkogdmleaaDoor

/- The program's hasOnlyOwn. -/
namespace Go.Proofs.YtccacjkogdmleaaDoor
open Go.RowKit Js

theorem natz (m : Nat) : ((m : Int) == 0) = decide (m = 0) := by
  rw [Bool.eq_iff_iff]; simp

end Go.Proofs.YtccacjkogdmleaaDoor


