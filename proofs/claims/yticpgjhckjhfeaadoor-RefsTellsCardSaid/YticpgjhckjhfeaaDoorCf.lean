/- The laws of layer 10 (shape), given what the program's Check, Single and Kids are to do. (By gen_cf.py.) -/
import Derived.Test.YticpgjhckjhfeaaDoorCb
import Derived.Test.YticpgjhckjhfeaaDoorMt
import Derived.Test.YticpgjhckjhfeaaDoorWg
import Derived.Test.YticpgjhckjhfeaaDoorRg
namespace Go.Proofs.YticpgjhckjhfeaaDoor
open Go.RowKit Js

/-- What holds of the world, and stays so. -/
def Stays (G : World → Prop) : Prop := ∀ w w' : World, G w → Below w.heap.size w w' → G w'
/-- What each Kids tells. -/
def KidsE (r : List Js.Mem) (w : World) (e : Ending) (w' : World) : Prop :=
  ∃ (A : Option Addr) (cp : Nat), e = .returned (.slice A r.length cp) ∧ SlM w'.cell? A r ∧ r.length ≤ cp ∧ cp ≤ maxLen ∧ Below w.heap.size w w'
/-- Values that may be, however deep, not too big, no part too long: more than Fine. -/
def Wide (v : Vl) : Prop := v.may = true ∧ v.size ≤ 1000000 ∧ v.slim 1000000
theorem Fine.wide {v : Vl} (h : Fine v) : Wide v := ⟨h.1, by have := h.2.1; omega, slim_mono (by omega) v h.2.2.2.2⟩
theorem refKidsE_any (nm : List UInt8) (v : Vl) (x : Value) (w : World) (hx : v.In w.cell? x) (hsz : v.size ≤ 1000000) : Calls Tryd.prog 24 #[.string ⟨nm.toArray⟩, x] w (KidsE (Sh.kids nm v) w) := by
  refine (refKids_any (fun q => q < w.heap.size) nm v x w (fun _ h => h) (In.keep (fun _ _ hp => on_some.2 ⟨World.block_lt_of_cell? _ _ hp, hp⟩) _ _ hx) hsz).mono ?_
  rintro e w' ⟨A, cp, h1, h2, h3, h4, h5⟩
  exact ⟨A, cp, h1, h2.keep (on_all _ _), h3, h4, h5⟩
/-- A world behind another one. -/
def Since10 (w W : World) : Prop := Below w.heap.size w W

/-- The document's example. -/
def Sh.exV : Vl := Ps.mkS [105, 110, 116, 101, 103, 101, 114]
/-- A value in a block, while a law goes on. -/
structure Part10 (gV : Nat) (V : Array Value) (wr W : World) : Prop where
  v : Blk W gV 28 V
  since : Below wr.heap.size wr W
theorem Part10.on {gV : Nat} {V : Array Value} {wr w' w'' : World} (h : Part10 gV V wr w') (hb : Below w'.heap.size w' w'') : Part10 gV V wr w'' := ⟨h.v.on hb, h.since.trans (hb.mono h.since.size)⟩

end Go.Proofs.YticpgjhckjhfeaaDoor

