/- Jl: Jl Jm, in one text. -/
import Derived.Test.YtkhplaknogalgaaDoorJa
import Derived.Test.YtkhplaknogalgaaDoorJi
import Derived.Test.YtkhplaknogalgaaDoorJk
import Derived.Test.YtkhplaknogalgaaDoorJs
import Derived.Test.YtkhplaknogalgaaDoorJp
import Derived.Test.YtkhplaknogalgaaDoorJq
import Derived.Test.YtkhplaknogalgaaDoorJt
import Derived.Test.YtkhplaknogalgaaDoorJn
import Derived.Test.YtkhplaknogalgaaDoorMr
import Derived.Test.YtkhplaknogalgaaDoorRg
/- Layer 7 (edit): the document's Edit, whole. -/
namespace Go.Proofs.YtkhplaknogalgaaDoor
open Go.RowKit Pt Js

theorem refEdit_any (op : Nat) (h13 : op = 1 ∨ op = 2 ∨ op = 3) : ∀ ns, EditC op ns
  | [] => refEdit_nil op (by omega) (by omega)
  | nm :: ns => by
    intro S v x xv xx A e w hS hv hx hs he hm hns hne hsz
    obtain ⟨k, b, n, s, l, m⟩ := v
    by_cases hk : k = 4
    · subst hk
      exact refEdit_list op h13 nm ns (fun _ => refEdit_any op h13 ns) S b n s l m x xv xx A e w hS hv hx hs he hm hns hne hsz
    · by_cases hn : ns = []
      · by_cases h2 : op = 2
        · exact refEdit_del op h13 nm ns (fun _ => refEdit_any op h13 ns) S k hk ⟨hn, h2⟩ b n s l m x xv xx A e w hS hv hx hs he hm hns hne hsz
        · by_cases hlo : ∃ p ∈ m, Lib.compareBytes p.1 nm ≠ -1
          · exact refEdit_putB op h13 nm ns (fun _ => refEdit_any op h13 ns) S k hk ⟨hn, h2⟩ b n s l m x xv xx A e w hlo hS hv hx hs he hm hns hne hsz
          · exact refEdit_putA op h13 nm ns (fun _ => refEdit_any op h13 ns) S k hk ⟨hn, h2⟩ b n s l m x xv xx A e w (fun p hp => Decidable.byContradiction fun h => hlo ⟨p, hp, h⟩) hS hv hx hs he hm hns hne hsz
      · have hAB : (k = 5 ∧ ∃ y, Js.find m nm = some y ∧ ∃ z, Ed.edit op ns y x = .ok z) ∨ (k = 5 → ∀ y, Js.find m nm = some y → ∃ c, Ed.edit op ns y x = .bad c) := by
          by_cases h5 : k = 5
          · cases hf : Js.find m nm with
            | none => exact .inr fun _ y h => by cases h
            | some u =>
              cases hr : Ed.edit op ns u x with
              | ok z => exact .inl ⟨h5, u, rfl, z, hr⟩
              | bad c => exact .inr fun _ y h => by cases h; exact ⟨c, hr⟩
          · exact .inr fun h => absurd h h5
        rcases hAB with hlo | hlo
        · exact refEdit_moreA op h13 nm ns (fun _ => refEdit_any op h13 ns) S k hk hn b n s l m x xv xx A e w hlo hS hv hx hs he hm hns hne hsz
        · exact refEdit_moreB op h13 nm ns (fun _ => refEdit_any op h13 ns) S k hk hn b n s l m x xv xx A e w hlo hS hv hx hs he hm hns hne hsz

end Go.Proofs.YtkhplaknogalgaaDoor

/- Layer 7 (edit): what the document's Edit tells, in the form that the laws want. -/
namespace Go.Proofs.YtkhplaknogalgaaDoor
open Go.RowKit Pt Js

theorem refEditS (op : Nat) (h13 : op = 1 ∨ op = 2 ∨ op = 3) {v x : Vl} {ns : List (List UInt8)} {xv xx : Value} {A : Option Addr} {e : Nat} {w : World} (h : Handed v x ns xv xx A e w) :
    Calls Tryd.prog 13 #[.int .i64 op, xv, .slice A ns.length e, xx] w (EditS (Ed.edit op ns v x) w) := by
  have hc : Cl.le w.cell? (w.on fun b => b < w.heap.size) := fun p u hp => on_some.2 ⟨World.block_lt_of_cell? w _ hp, hp⟩
  refine (refEdit_any op h13 ns (fun b => b < w.heap.size) v x xv xx A e w (fun _ h => h) (In.keep hc _ _ h.hv) (In.keep hc _ _ h.hx) h.hs h.he h.hm h.hns h.hne h.hsz).mono ?_
  rintro e' w' ⟨hb, ⟨u, y, hr, rfl, hy⟩ | ⟨c, y, hr, _, _, rfl, hy⟩⟩
  · rw [hr]; exact ⟨y, rfl, In.keep (on_all _ _) _ _ hy, hb⟩
  · rw [hr]; exact ⟨y, rfl, In.keep (on_all _ _) _ _ hy, hb⟩

theorem refs_any : RefT := ⟨fun op h13 {_ _ _ _ _ _ _ _} h => refEditS op h13 h⟩

end Go.Proofs.YtkhplaknogalgaaDoor


