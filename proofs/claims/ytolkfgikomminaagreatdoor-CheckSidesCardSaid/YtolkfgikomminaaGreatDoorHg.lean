/- Hg: Hg Hh, in one text. -/
import Derived.Test.YtolkfgikomminaaGreatDoorHb
import Derived.Test.YtolkfgikomminaaGreatDoorMg
import Derived.Deep.CutRange
import Derived.Test.YtolkfgikomminaaGreatDoorDi
import Derived.Test.YtolkfgikomminaaGreatDoorLa
namespace Go.Proofs.YtolkfgikomminaaGreatDoor
open Go.RowKit Js

theorem via14 {K : Act → World → Prop} {a : Act} {w' : World} (F : World → Prop) (hF : F w') (h : ∀ W, F W → K a W) : K a w' := h w' hF
end Go.Proofs.YtolkfgikomminaaGreatDoor

namespace Go.Proofs.YtolkfgikomminaaGreatDoor
open Go.RowKit Js

theorem Blk.four14 {w : World} {g : Nat} {t : TypeId} {c0 c1 c2 c3 : Value} (h : Blk w g t #[c0, c1, c2, c3]) : w.cell? ⟨g, 0, none⟩ = some c0 ∧ w.cell? ⟨g, 1, none⟩ = some c1 ∧ w.cell? ⟨g, 2, none⟩ = some c2 ∧ w.cell? ⟨g, 3, none⟩ = some c3 := ⟨h.cell 0, h.cell 1, h.cell 2, h.cell 3⟩
def strs14 (t : List (List UInt8)) : List Value := t.map fun n => Value.string ⟨n.toArray⟩
def StrsAt (W : World) (B : Nat) (A : Option Addr) (c : Nat) (t : List (List UInt8)) : Prop := W.ownsRow B 9 1 (.slice A t.length c) t.length (strs14 t)
section
variable {W W' : World} {B : Nat} {A : Option Addr} {c : Nat} {t : List (List UInt8)}
theorem StrsAt.nil (W : World) (B : Nat) : StrsAt W B none 0 [] := World.ownsRow_nil W B _ 1
theorem StrsAt.on (h : StrsAt W B A c t) (hb : Below W.heap.size W W') : StrsAt W' B A c t := own_keep h (fun k _ hk => hb.block k hk)
theorem StrsAt.le (h : StrsAt W B A c t) : t.length ≤ c ∧ c ≤ maxLen ∧ ∀ ad, A = some ad → ∃ g, ad = ⟨g, 0, none⟩ ∧ B ≤ g ∧ g < W.heap.size := by
 have hl := own_le h
 exact ⟨hl.1, hl.2.1, hl.2.2.2⟩
theorem StrsAt.less {B' : Nat} (h : StrsAt W B A c t) (hB : B' ≤ B) : StrsAt W B' A c t := by
 obtain ⟨q1, q2⟩ := h
 refine ⟨q1, q2.imp id ?_⟩
 rintro ⟨g, cap, cur, r1, r2, r3⟩
 exact ⟨g, cap, cur, r1, by omega, r3⟩
theorem strs14_one (t : List (List UInt8)) : ∀ u ∈ strs14 t, u.oneCell' = true := fun u hu => by
 obtain ⟨n, _, rfl⟩ := List.mem_map.1 hu
 rfl
theorem StrsAt.strs (h : StrsAt W B A c t) : Strs W.cell? A t := fun i n hi => by
 have hl := own_le h
 have hil := (List.getElem?_eq_some_iff.1 hi).1
 cases hA : A with
 | none => have := (hl.2.2.1 hA).1; omega
 | some ad =>
  obtain ⟨g, rfl, _⟩ := hl.2.2.2 ad hA
  subst hA
  refine ⟨g, 0, rfl, ?_⟩
  rw [Nat.zero_add]
  exact own_cell h i _ (by unfold strs14; rw [List.getElem?_map, hi]; rfl)
end
theorem infoStr14 : ∃ i, Tryz.prog.info? 9 = some i ∧ i.zero = some (.string ⟨#[]⟩) ∧ i.size = 1 ∧ i.bytes = 16 := by
 have h : (Tryz.prog.info? 9).map (fun i => (i.zero, i.size, i.bytes)) = some (some (.string ⟨#[]⟩), 1, 16) := by kernel_rfl
 cases hq : Tryz.prog.info? 9 with
 | none => rw [hq] at h; cases h
 | some i =>
  rw [hq] at h
  simp only [Option.map_some, Option.some.injEq, Prod.mk.injEq] at h
  exact ⟨i, rfl, h.1, h.2.1, h.2.2⟩
def Ow.failing (keys : List Cm.Key) (v : Vl) : List (List UInt8) := (keys.filter fun k => Ow.fails k.name k.v v).map (·.name)
theorem Ow.failing_next {keys : List Cm.Key} {v : Vl} {k : Nat} (h : k < keys.length) : Ow.failing (keys.take (k + 1)) v = Ow.failing (keys.take k) v ++ (if Ow.fails keys[k].name keys[k].v v = true then [keys[k].name] else []) := by
 unfold Ow.failing
 rw [List.take_succ_eq_append_getElem h, List.filter_append, List.map_append]
 congr 1
 simp only [List.filter_cons, List.filter_nil]
 split <;> rfl
theorem Ow.failing_len (keys : List Cm.Key) (v : Vl) : (Ow.failing keys v).length ≤ keys.length := by
 unfold Ow.failing
 rw [List.length_map]
 exact List.length_filter_le _ _

end Go.Proofs.YtolkfgikomminaaGreatDoor


