/- Wa: Wa Wb, in one text. -/
import Derived.Test.YtccacjkogdmleaaDoorRows
import Derived.Test.YtccacjkogdmleaaDoorMa
import Derived.WalkKit
import Derived.WalkSpells
import Derived.WalkLawsBesides
import Derived.Deep.QuietTactic
import Derived.BigQuiet
import Derived.RegionTactic
import Derived.Lib.TrimByte
import Derived.Lib.Hide
import Derived.Test.YtccacjkogdmleaaDoorShelf
import Derived.Deep.RegionHeld3
import Derived.WalkSmall
/- The walks of layer 1 (num), first part: cutDigits, cutSign. -/
namespace Go.Proofs.YtccacjkogdmleaaDoor
open Go.RowKit
end Go.Proofs.YtccacjkogdmleaaDoor

/- The walks of layer 1 (num), second part: sign, Whole, cmpSize, Cmp. -/
namespace Go.Proofs.YtccacjkogdmleaaDoor
open Go.RowKit
/-- Two new blocks, and draws: what is older is as it was. -/
theorem below_two0 (w : World) (o1 o2 : Obj) : Below w.heap.size w ((w.alloc o1).alloc o2) := ((Below.refl _ _).alloc (Nat.le_refl _) _).alloc (by simp) _
theorem below_two1 (w : World) (o1 o2 : Obj) : Below w.heap.size w ((w.alloc o1).alloc o2).drew := (below_two0 w o1 o2).drew
theorem below_two2 (w : World) (o1 o2 : Obj) : Below w.heap.size w ((w.alloc o1).alloc o2).drew.drew := (below_two0 w o1 o2).drew.drew
theorem below_twoN (w : World) (o1 o2 : Obj) (n : Nat) : Below w.heap.size w (((w.alloc o1).alloc o2).drewN n) := below_drewN (below_two0 w o1 o2) n
theorem below_twoNd (w : World) (o1 o2 : Obj) (n : Nat) : Below w.heap.size w (((w.alloc o1).alloc o2).drewN n).drew := (below_drewN (below_two0 w o1 o2) n).drew

theorem below_set {w W : World} (h : Below w.heap.size w W) {b : Nat} (hb : w.heap.size ≤ b) (o : Nat) (v : Value) : Below w.heap.size w (W.setCell ⟨b, o, none⟩ v) := h.setCell hb v

/-- Behind a call that changes nothing older: all older cells and marks read as before. -/
theorem bcell {W w1 : World} (hb : Below W.heap.size W w1) : (∀ b o, b < W.heap.size → w1.cell? ⟨b, o, none⟩ = W.cell? ⟨b, o, none⟩) ∧ (∀ b o, b < W.heap.size → w1.frozen? ⟨b, o, none⟩ = W.frozen? ⟨b, o, none⟩) :=
  ⟨fun b o h => hb.cell (p := ⟨b, o, none⟩) h, fun b o h => hb.frozen (p := ⟨b, o, none⟩) h⟩

/-- The cells of a number that lies in a block, in a world. -/
def NumAt (w : World) (b : Nat) (n : Bool) (d : List UInt8) (x : Int) : Prop :=
  w.cell? ⟨b, 0, none⟩ = some (.bool n) ∧ w.cell? ⟨b, 1, none⟩ = some (.string ⟨d.toArray⟩) ∧ w.cell? ⟨b, 2, none⟩ = some (.int .i64 x)

theorem NumAt.keep {W w1 : World} {b : Nat} {n : Bool} {d : List UInt8} {x : Int} {k : Nat} (h : NumAt W b n d x) (hb : Below k W w1) (hk : b < k) : NumAt w1 b n d x :=
  ⟨(hb.cell (p := ⟨b, 0, none⟩) hk).trans h.1, (hb.cell (p := ⟨b, 1, none⟩) hk).trans h.2.1, (hb.cell (p := ⟨b, 2, none⟩) hk).trans h.2.2⟩

/-- Two numbers that a call has boxed, one behind the other; what is older is as it was. -/
def TwoAt (w : World) (na : Bool) (da : List UInt8) (xa : Int) (nb : Bool) (db : List UInt8) (xb : Int) (w' : World) : Prop :=
  (w'.cell? ⟨w.heap.size, 0, none⟩ = some (.bool na) ∧ w'.cell? ⟨w.heap.size, 1, none⟩ = some (.string ⟨da.toArray⟩) ∧ w'.cell? ⟨w.heap.size, 2, none⟩ = some (.int .i64 xa)) ∧
    (w'.cell? ⟨w.heap.size + 1, 0, none⟩ = some (.bool nb) ∧ w'.cell? ⟨w.heap.size + 1, 1, none⟩ = some (.string ⟨db.toArray⟩) ∧ w'.cell? ⟨w.heap.size + 1, 2, none⟩ = some (.int .i64 xb)) ∧ Below w.heap.size w w' ∧ w.heap.size + 2 ≤ w'.heap.size

theorem TwoAt.keep {w : World} {na : Bool} {da : List UInt8} {xa : Int} {nb : Bool} {db : List UInt8} {xb : Int} {W w1 : World} (h : TwoAt w na da xa nb db xb W) (hb : Below W.heap.size W w1) : TwoAt w na da xa nb db xb w1 := by
  obtain ⟨h1, h2, h3, h4⟩ := h
  exact ⟨NumAt.keep h1 hb (by omega), NumAt.keep h2 hb (by omega), h3.trans (hb.mono (by omega)), by have := hb.size; omega⟩

theorem TwoAt.start (w : World) (na : Bool) (da : List UInt8) (xa : Int) (nb : Bool) (db : List UInt8) (xb : Int) (t : TypeId) :
    TwoAt w na da xa nb db xb ((w.alloc (.cells #[.bool na, .string ⟨da.toArray⟩, .int .i64 xa] t)).alloc (.cells #[.bool nb, .string ⟨db.toArray⟩, .int .i64 xb] t)).drew := by
  refine ⟨⟨?_, ?_, ?_⟩, ⟨?_, ?_, ?_⟩, (((Below.refl _ _).alloc (Nat.le_refl _) _).alloc (by simp) _).drew, by simp⟩ <;> simp

end Go.Proofs.YtccacjkogdmleaaDoor


