/- Dl: Dk Dl, in one text. -/
import Derived.Test.YtolkfgikomminaaGreatDoorDa
import Derived.Test.YtolkfgikomminaaGreatDoorDj
namespace Go.Proofs.YtolkfgikomminaaGreatDoor.Cm
open Js Pt
theorem get_small {N : Nat} (hN : 18 ≤ N) : ∀ (ns : Names) (v x : Vl), v.slim N → get v ns = some x → ns.length ≤ v.size ∧ (∀ n ∈ ns, n.length ≤ N) ∧ x.size ≤ v.size
 | [], v, x, _, h => by
  rw [Pt.get] at h
  injection h with h
  subst h
  exact ⟨Nat.zero_le _, (fun n hn => by cases hn), Nat.le_refl _⟩
 | nm :: ns, .mk k b n s l m, x, hs, h => by
  simp only [Vl.slim] at hs
  rw [Pt.get] at h
  simp only [Vl.size]
  split at h
  ·split at h
   ·rename_i y hy
    split at h
    ·rename_i hi
     have hy2 := List.mem_of_getElem? hy
     have hz := sizeL_mem hy2
     obtain ⟨h1, h2, h3⟩ := get_small hN ns y x ((slimL_iff N l).1 hs.2.2.1 y hy2) h
     refine ⟨by simp only [List.length_cons]; omega, fun q hq => ?_, by omega⟩
     rcases List.mem_cons.1 hq with rfl | hq
     ·rcases Ed.index_true hi with ⟨h1, _⟩ | ⟨_, hg, _⟩
      ·cases h1
      ·unfold Ed.good at hg
       rcases Nat.lt_or_ge 18 q.length with k | k
       ·exact absurd (.inr (.inr (.inr k))) hg
       ·omega
     ·exact h2 q hq
    ·cases h
   ·cases h
  ·split at h
   ·rename_i y hy
    rw [Ed.find_five] at hy
    split at hy
    ·unfold find at hy
     obtain ⟨p, hp, rfl⟩ := Option.map_eq_some_iff.1 hy
     have hpm := List.mem_of_find?_eq_some hp
     have hpe : p.1 = nm := by simpa using List.find?_some hp
     have hz := sizeM_mem hpm
     have hsl := (slimM_iff N m).1 hs.2.2.2 p hpm
     obtain ⟨h1, h2, h3⟩ := get_small hN ns p.2 x hsl.2 h
     refine ⟨by simp only [List.length_cons]; omega, fun q hq => ?_, by omega⟩
     rcases List.mem_cons.1 hq with rfl | hq
     ·rw [← hpe]; exact hsl.1
     ·exact h2 q hq
    ·cases hy
   ·cases h
theorem keyNos_cons (K : Key) (r : List Key) : keyNos (K :: r) = K.kids.map (·.2) ++ keyNos r := by simp [keyNos]
theorem keyNos_append (a b : List Key) : keyNos (a ++ b) = keyNos a ++ keyNos b := by simp [keyNos]
end Go.Proofs.YtolkfgikomminaaGreatDoor.Cm

namespace Go.Proofs.YtolkfgikomminaaGreatDoor
open Go.RowKit Js Pt
end Go.Proofs.YtolkfgikomminaaGreatDoor


