/- Hb: Hb Hc Hd, in one text. -/
import Derived.Test.YtolkfgikomminaaGreatDoorHa
import Derived.Test.YtolkfgikomminaaGreatDoorMe
import Derived.Deep.RegionWith
import Derived.StillTailTactics
import Derived.Deep.Cut
import Derived.Deep.CutRange
import Derived.Test.YtolkfgikomminaaGreatDoorSf
import Derived.Test.YtolkfgikomminaaGreatDoorMo
import Derived.Deep.RegionHeld3
import Derived.Test.YtolkfgikomminaaGreatDoorWj
namespace Go.Proofs.YtolkfgikomminaaGreatDoor
open Go.RowKit Js
end Go.Proofs.YtolkfgikomminaaGreatDoor

namespace Go.Proofs.YtolkfgikomminaaGreatDoor
open Go.RowKit Js

theorem Nm.countMay14 (c : Nat) (h : c ≤ 1000000) : Nm.May (Nm.count (c : Int)) := Nm.laws.countMay c (by omega) (by omega)
theorem Ow.charsGo_le : ∀ (f : Nat) (l : List UInt8), Ow.charsGo f l ≤ f
 | 0, _ => Nat.le_refl _
 | f + 1, [] => Nat.zero_le _
 | f + 1, c :: r => by
  have := Ow.charsGo_le f ((c :: r).drop (max (St.utf8 (c :: r)) 1))
  rw [Ow.charsGo]
  omega
theorem Ow.chars_le (s : List UInt8) : Ow.chars s ≤ s.length := Ow.charsGo_le _ _
end Go.Proofs.YtolkfgikomminaaGreatDoor

namespace Go.Proofs.YtolkfgikomminaaGreatDoor
open Go.RowKit Js

theorem Ow.kw14_no {nm : List UInt8} (h : ∀ x ∈ Ow.keys14.map (·.1), nm ≠ x) : Ow.kw14 nm = 0 := by
 unfold Ow.kw14
 rw [List.find?_eq_none.2 (fun p hp => by
  have := h p.1 (List.mem_map.2 ⟨p, hp, rfl⟩)
  simpa using fun e => this e.symm)]
 rfl
end Go.Proofs.YtolkfgikomminaaGreatDoor


