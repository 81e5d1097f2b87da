/- The laws of layer 10 (shape), given what the program's Check, Single and Kids are to do. (By gen_cf.py.) -/
import Derived.Test.YtlhinefalkfjaaaGreatDoorCb
import Derived.Test.YtlhinefalkfjaaaGreatDoorMt
import Derived.Test.YtlhinefalkfjaaaGreatDoorWg
import Derived.Test.YtlhinefalkfjaaaGreatDoorRg
namespace Go.Proofs.YtlhinefalkfjaaaGreatDoor
open Go.RowKit Js

def Stays (G : World → Prop) : Prop := ∀ w w' : World, G w → Below w.heap.size w w' → G w'
def Wide (v : Vl) : Prop := v.may = true ∧ v.size ≤ 1000000 ∧ v.slim 1000000
def CheckW (G : World → Prop) : Prop := ∀ (nm : List UInt8) (v : Vl) (x : Value) (w : World), G w → Wide v → v.In w.cell? x → Calls Tryz.prog 43 #[.string ⟨nm.toArray⟩, x] w fun e w' => e = .returned (errV (Sh.shape nm v)) ∧ Below w.heap.size w w'
def Sh.exV : Vl := Ps.mkS [105, 110, 116, 101, 103, 101, 114]
structure Part10 (gV : Nat) (V : Array Value) (wr W : World) : Prop where
  v : Blk W gV 28 V
  since : Below wr.heap.size wr W
theorem Part10.on {gV : Nat} {V : Array Value} {wr w' w'' : World} (h : Part10 gV V wr w') (hb : Below w'.heap.size w' w'') : Part10 gV V wr w'' := ⟨h.v.on hb, h.since.trans (hb.mono h.since.size)⟩

end Go.Proofs.YtlhinefalkfjaaaGreatDoor

