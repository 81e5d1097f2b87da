/- Al: Ak Al Am, in one text. -/
import Derived.Test.YtjjenpmahmbafaaGreatDoorAb
import Derived.Test.YtjjenpmahmbafaaGreatDoorRg
import Derived.Test.YtjjenpmahmbafaaGreatDoorPq
import Derived.StillTailTactics
import Derived.Deep.RegionHeld3
import Derived.Test.YtjjenpmahmbafaaGreatDoorAe
import Derived.Test.YtjjenpmahmbafaaGreatDoorMt
import Derived.Test.YtjjenpmahmbafaaGreatDoorMr
import Derived.Test.YtjjenpmahmbafaaGreatDoorSf
import Derived.KernelRfl
namespace Go.Proofs.YtjjenpmahmbafaaGreatDoor
open Go.RowKit Pt Js Oq

theorem CellsAt.op {c : Cl} {g o : Nat} {c0 c1 c2 c3 c4 c5 c6 c7 c8 c9 c10 : Value} (h : CellsAt c g o (.agg #[c0, c1, c2, c3, c4, c5, c6, c7, c8, c9, c10])) :
    c ⟨g, o, none⟩ = some c0 ∧ c ⟨g, o + 1, none⟩ = some c1 ∧ c ⟨g, o + 2, none⟩ = some c2 ∧ CellsAt c g (o + 3) (.agg #[c3, c4, c5, c6, c7, c8, c9, c10]) :=
  ⟨h 0 _ rfl, h 1 _ rfl, h 2 _ rfl, fun j u hu => by
    have := h (3 + j) u (by
      have hj : j < 8 := by have := (Array.getElem?_eq_some_iff.1 hu).1; simpa [Value.cells] using this
      match j, hj, hu with
      | 0, _, hu | 1, _, hu | 2, _, hu | 3, _, hu | 4, _, hu | 5, _, hu | 6, _, hu | 7, _, hu => exact hu)
    rw [show o + (3 + j) = o + 3 + j by omega] at this
    exact this⟩
theorem OIn.form {c : Cl} {o : Opn} {x : Value} (hx : o.In c x) :
    ∃ (A : Option Addr) (e : Nat) (F : Option Addr) (d : Nat) (k : Int) (b neg : Bool) (dg : List UInt8) (ex : Int) (s : List UInt8) (A1 : Option Addr) (l1 p1 : Nat) (B1 : Option Addr) (m1 d1 : Nat),
      x = opV o.op A o.path.length e F o.src.length d k b neg dg ex s (.slice A1 l1 p1) (.slice B1 m1 d1) ∧ Strs c A o.path ∧ o.path.length ≤ e ∧ e ≤ maxLen ∧ Strs c F o.src ∧ o.src.length ≤ d ∧ d ≤ maxLen ∧
      o.v.In c (vlV k b neg dg ex s (.slice A1 l1 p1) (.slice B1 m1 d1)) := hx

section
variable {g o h r : Nat} {c0 c1 c2 d0 d1 d2 : Value} {w w' w'' : World}
end
end Go.Proofs.YtjjenpmahmbafaaGreatDoor

namespace Go.Proofs.YtjjenpmahmbafaaGreatDoor.Oq
open Js Pt

def exV : Vl := .mk 4 false Nm.Num.zero [] [.mk 5 false Nm.Num.zero [] [] [([111, 112], .mk 3 false Nm.Num.zero [114, 101, 109, 111, 118, 101] [] []), ([112, 97, 116, 104], .mk 3 false Nm.Num.zero [47, 97] [] [])]] []
theorem fit_fine {v : Vl} (h : Fine v) : Fit v := ⟨Ed.neat_may v h.1, by have := h.2.1; omega, slim_mono (by omega) v h.2.2.2.2⟩
end Go.Proofs.YtjjenpmahmbafaaGreatDoor.Oq
namespace Go.Proofs.YtjjenpmahmbafaaGreatDoor
open Go.RowKit Pt Js Oq

theorem le_whole (w : World) : Cl.le w.cell? (w.on fun b => b < w.heap.size) := fun _ _ hp => on_some.2 ⟨World.block_lt_of_cell? w _ hp, hp⟩
def RefReadF (r : Oq.Rd) (w : World) (e : Ending) (w' : World) : Prop :=
  Below w.heap.size w w' ∧ ((∃ (l : List Opn) (A : Option Addr) (cp : Nat), r = .ok l ∧ e = .returned (.tuple #[.slice A l.length cp, .int .i64 0, .int .i64 0]) ∧ SlO w'.cell? A l ∧ l.length ≤ cp ∧ cp ≤ maxLen) ∨
    (∃ (c i : Nat), r = .bad c i ∧ e = .returned (.tuple #[.slice none 0 0, .int .i64 c, .int .i64 i])))
theorem refReadF_any (v : Vl) (x : Value) (w : World) (hv : Fit v) (hx : v.In w.cell? x) : Calls Tryz.prog 17 #[x] w (RefReadF (Oq.read v) w) := by
  refine (refRead8_any (fun b => b < w.heap.size) v x w (fun _ h => h) hv (In.keep (le_whole w) _ _ hx)).mono ?_
  rintro e w' ⟨hb, ⟨l, A, cp, h1, h2, h3, h4, h5⟩ | h⟩
  · exact ⟨hb, .inl ⟨l, A, cp, h1, h2, h3.keep (on_all _ _), h4, h5⟩⟩
  · exact ⟨hb, .inr h⟩
end Go.Proofs.YtjjenpmahmbafaaGreatDoor

namespace Go.Proofs.YtjjenpmahmbafaaGreatDoor
open Go.RowKit Pt Js Oq

def Spots8 (w : World) (ev : Value) (k a : Int) : Prop := (ev = .nilIface ∧ k = 0 ∧ a = 0) ∨ ∃ b, ev = spotV b ∧ SpotAt w b a k
theorem spots8_any {w : World} {ev : Value} {k a : Int} (h : Spots8 w ev k a) : Calls Tryz.prog 10 #[ev] w fun e w' => e = .returned (.tuple #[.int .i64 k, .int .i64 a]) ∧ Below w.heap.size w w' := by
  rcases h with ⟨rfl, rfl, rfl⟩ | ⟨b, rfl, h⟩
  · refine (spot_nil w).mono ?_
    rintro e w' ⟨rfl, rfl⟩
    exact ⟨rfl, Below.refl _ _⟩
  · exact spot_at b a k w h
theorem Spots8.on {w w' : World} {ev : Value} {k a : Int} (h : Spots8 w ev k a) (hb : Below w.heap.size w w') : Spots8 w' ev k a := by
  rcases h with h | ⟨b, h1, h2, h3⟩
  · exact .inl h
  · exact .inr ⟨b, h1, le_below hb _ _ h2, le_below hb _ _ h3⟩
end Go.Proofs.YtjjenpmahmbafaaGreatDoor


