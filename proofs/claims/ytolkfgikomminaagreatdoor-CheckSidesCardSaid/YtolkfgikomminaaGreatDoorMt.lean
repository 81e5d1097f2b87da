/- Mt: Rd Mt, in one text. -/
import Derived.Test.YtolkfgikomminaaGreatDoorMe
import Derived.Test.YtolkfgikomminaaGreatDoorWg
import Derived.Test.YtolkfgikomminaaGreatDoorMa
import Derived.Test.YtolkfgikomminaaGreatDoorMk
import Derived.Test.YtolkfgikomminaaGreatDoorMc
import Derived.Test.YtolkfgikomminaaGreatDoorRg
import Derived.Test.YtolkfgikomminaaGreatDoorMr
import Derived.Test.YtolkfgikomminaaGreatDoorMg
import Derived.Deep.RegionHeld3
namespace Go.Proofs.YtolkfgikomminaaGreatDoor
open Go.RowKit Js
end Go.Proofs.YtolkfgikomminaaGreatDoor

namespace Go.Proofs.YtolkfgikomminaaGreatDoor
open Go.RowKit Js
end Go.Proofs.YtolkfgikomminaaGreatDoor

namespace Go.Proofs.YtolkfgikomminaaGreatDoor
open Go.RowKit Js
end Go.Proofs.YtolkfgikomminaaGreatDoor

namespace Go.Proofs.YtolkfgikomminaaGreatDoor
open Go.RowKit Js
end Go.Proofs.YtolkfgikomminaaGreatDoor

namespace Go.Proofs.YtolkfgikomminaaGreatDoor
open Go.RowKit Js

def Fine (v : Vl) : Prop := v.may = true ∧ v.size ≤ 2000 ∧ v.depth ≤ 32 ∧ v.levels ≤ 32 ∧ v.slim 80000
theorem fine_of {s : List UInt8} {v : Vl} {u : List UInt8} (hs : s.length ≤ 2000) (h : Ps.parse s = .ok v u) : Fine v := by
 have ht := Ps.parse_told s
 rw [h] at ht
 have hl := may_levels v ht.1.1
 have h1 := ht.1.2
 have h2 := ht.2
 exact ⟨ht.1.1, by omega, by omega, by omega, Ps.parse_slim h⟩
mutual
theorem slim_mono {N M : Nat} (h : N ≤ M) : ∀ v : Vl, v.slim N → v.slim M
 | .mk k b n s l m, hv => by
  simp only [Vl.slim] at hv ⊢
  exact ⟨by omega, by omega, slimL_mono h l hv.2.2.1, slimM_mono h m hv.2.2.2⟩
theorem slimL_mono {N M : Nat} (h : N ≤ M) : ∀ l : List Vl, slimL N l → slimL M l
 | [], _ => trivial
 | v :: l, hv => by
  simp only [slimL] at hv ⊢
  exact ⟨slim_mono h v hv.1, slimL_mono h l hv.2⟩
theorem slimM_mono {N M : Nat} (h : N ≤ M) : ∀ m : List Js.Mem, slimM N m → slimM M m
 | [], _ => trivial
 | p :: m, hv => by
  simp only [slimM] at hv ⊢
  exact ⟨slimP_mono h p hv.1, slimM_mono h m hv.2⟩
theorem slimP_mono {N M : Nat} (h : N ≤ M) : ∀ p : Js.Mem, slimP N p → slimP M p
 | (k, v), hv => by
  simp only [slimP] at hv ⊢
  exact ⟨by omega, slim_mono h v hv.2⟩
end

def Told (w : World) (e : Ending) (w' : World) : Prop :=
 ∃ v x c, e = .returned (.tuple #[x, .int .i64 c]) ∧ v.In w'.cell? x ∧ Below w.heap.size w w' ∧ (c = 0 ∨ (c = 1 ∧ Fine v))
theorem value_told (s : ByteArray) (hs : s.size ≤ 1000000000000000000) (w : World) : Calls Tryz.prog 7 #[.string s] w (Told w) := by
 refine (value_law s hs w).mono ?_
 rintro e w' ⟨hb, ⟨x, rfl, hin⟩ | ⟨v, u, x, hsz, hp, rfl, hin⟩⟩
 ·exact ⟨_, x, 0, rfl, In.keep (le_on _ _) _ _ hin, hb, .inl rfl⟩
 ·exact ⟨v, x, 1, rfl, In.keep (le_on _ _) _ _ hin, hb, .inr ⟨rfl, fine_of (by rw [← Lib.size_eq]; exact hsz) hp⟩⟩

section
variable {w w' : World} {g : Nat} {c0 c1 c2 c3 c4 c5 c6 c7 : Value}
end
end Go.Proofs.YtolkfgikomminaaGreatDoor

namespace Go.Proofs.YtolkfgikomminaaGreatDoor
open Go.RowKit Js
end Go.Proofs.YtolkfgikomminaaGreatDoor


