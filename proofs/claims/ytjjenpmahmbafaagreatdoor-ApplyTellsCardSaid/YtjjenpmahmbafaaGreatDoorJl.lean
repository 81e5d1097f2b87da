/- Jl: Jl Jm, in one text. -/
import Derived.Test.YtjjenpmahmbafaaGreatDoorJa
import Derived.Test.YtjjenpmahmbafaaGreatDoorJi
import Derived.Test.YtjjenpmahmbafaaGreatDoorJk
import Derived.Test.YtjjenpmahmbafaaGreatDoorJs
import Derived.Test.YtjjenpmahmbafaaGreatDoorJp
import Derived.Test.YtjjenpmahmbafaaGreatDoorJq
import Derived.Test.YtjjenpmahmbafaaGreatDoorJt
import Derived.Test.YtjjenpmahmbafaaGreatDoorJn
import Derived.Test.YtjjenpmahmbafaaGreatDoorMr
import Derived.Test.YtjjenpmahmbafaaGreatDoorRg
namespace Go.Proofs.YtjjenpmahmbafaaGreatDoor
open Go.RowKit Pt Js

theorem refEdit_any (op : Nat) (h13 : op = 1 ∨ op = 2 ∨ op = 3) : ∀ ns, EditC op ns
  | [] => refEdit_nil op (by omega) (by omega)
  | nm :: ns => by
    intro S v x xv xx A e w hS hv hx hs he hm hns hne hsz
    obtain ⟨k, b, n, s, l, m⟩ := v
    by_cases hk : k = 4
    · subst hk
      exact refEdit_list op h13 nm ns (fun _ => refEdit_any op h13 ns) S b n s l m x xv xx A e w hS hv hx hs he hm hns hne hsz
    · by_cases hn : ns = []
      · by_cases h2 : op = 2
        · exact refEdit_del op h13 nm ns (fun _ => refEdit_any op h13 ns) S k hk ⟨hn, h2⟩ b n s l m x xv xx A e w hS hv hx hs he hm hns hne hsz
        · by_cases hlo : ∃ p ∈ m, Lib.compareBytes p.1 nm ≠ -1
          · exact refEdit_putB op h13 nm ns (fun _ => refEdit_any op h13 ns) S k hk ⟨hn, h2⟩ b n s l m x xv xx A e w hlo hS hv hx hs he hm hns hne hsz
          · exact refEdit_putA op h13 nm ns (fun _ => refEdit_any op h13 ns) S k hk ⟨hn, h2⟩ b n s l m x xv xx A e w (fun p hp => Decidable.byContradiction fun h => hlo ⟨p, hp, h⟩) hS hv hx hs he hm hns hne hsz
      · have hAB : (k = 5 ∧ ∃ y, Js.find m nm = some y ∧ ∃ z, Ed.edit op ns y x = .ok z) ∨ (k = 5 → ∀ y, Js.find m nm = some y → ∃ c, Ed.edit op ns y x = .bad c) := by
          by_cases h5 : k = 5
          · cases hf : Js.find m nm with
            | none => exact .inr fun _ y h => by cases h
            | some u =>
              cases hr : Ed.edit op ns u x with
              | ok z => exact .inl ⟨h5, u, rfl, z, hr⟩
              | bad c => exact .inr fun _ y h => by cases h; exact ⟨c, hr⟩
          · exact .inr fun h => absurd h h5
        rcases hAB with hlo | hlo
        · exact refEdit_moreA op h13 nm ns (fun _ => refEdit_any op h13 ns) S k hk hn b n s l m x xv xx A e w hlo hS hv hx hs he hm hns hne hsz
        · exact refEdit_moreB op h13 nm ns (fun _ => refEdit_any op h13 ns) S k hk hn b n s l m x xv xx A e w hlo hS hv hx hs he hm hns hne hsz

end Go.Proofs.YtjjenpmahmbafaaGreatDoor

namespace Go.Proofs.YtjjenpmahmbafaaGreatDoor
open Go.RowKit Pt Js
end Go.Proofs.YtjjenpmahmbafaaGreatDoor


