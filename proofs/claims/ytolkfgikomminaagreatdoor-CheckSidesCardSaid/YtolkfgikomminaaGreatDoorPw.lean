/- Pw: Pw Py Pz, in one text. -/
import Derived.Test.YtolkfgikomminaaGreatDoorPq
import Derived.Test.YtolkfgikomminaaGreatDoorMr
import Derived.BigQuiet
import Derived.Deep.RegionLaw
namespace Go.Proofs.YtolkfgikomminaaGreatDoor
open Go.RowKit Pt Js
theorem Blk.drewN {w : World} {g : Nat} {t : TypeId} {cs : Array Value} (h : Blk w g t cs) (n : Nat) : Blk (w.drewN n) g t cs := h
end Go.Proofs.YtolkfgikomminaaGreatDoor

namespace Go.Proofs.YtolkfgikomminaaGreatDoor
open Go.RowKit Pt Js
end Go.Proofs.YtolkfgikomminaaGreatDoor

namespace Go.Proofs.YtolkfgikomminaaGreatDoor
open Go.RowKit Pt Js

def Found (c : Cl) (r : Option Vl) (rb : Bool) (n0 : Nat) (w2 : World) (v8 v9 : Value) (wc : World) : Prop :=
 ∃ (p8 : Nat) (cs : Array Value), v8 = .pointer (some ⟨p8, 0, none⟩) ∧ v9 = .bool rb ∧ Blk wc p8 31 cs ∧ (r.getD none0).In c (.agg cs) ∧ Blk wc (n0 + 1) 31 #[.int .i64 0, .bool false, .bool false, .string ⟨#[]⟩, .int .i64 0, .string ⟨#[]⟩, .slice none 0 0, .slice none 0 0] ∧ Below w2.heap.size w2 wc
end Go.Proofs.YtolkfgikomminaaGreatDoor


