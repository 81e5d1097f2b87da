/- Mt: Rd Mt, in one text. -/
import Derived.Test.YtccacjkogdmleaaDoorMe
import Derived.Test.YtccacjkogdmleaaDoorWg
import Derived.Test.YtccacjkogdmleaaDoorMa
import Derived.Test.YtccacjkogdmleaaDoorMk
import Derived.Test.YtccacjkogdmleaaDoorMc
import Derived.Test.YtccacjkogdmleaaDoorRg
import Derived.Test.YtccacjkogdmleaaDoorMr
import Derived.Test.YtccacjkogdmleaaDoorMg
import Derived.Deep.RegionHeld3
namespace Go.Proofs.YtccacjkogdmleaaDoor
open Go.RowKit Js

/-- A number may be, if its digits, read, are themselves. -/
theorem mayNum_parse (neg : Bool) (d : List UInt8) (x : Int) (h : d ≠ []) :
    mayNum ⟨neg, d, x⟩ = (decide ((Nm.parse d).2 = 0) && decide ((Nm.parse d).1 = ⟨false, d, 0⟩) && decide (-1000 ≤ x) && decide (x ≤ 1000)) := by
  rw [Bool.eq_iff_iff]
  simp only [Bool.and_eq_true, decide_eq_true_eq]
  constructor
  · intro hm
    rcases mayNum_May hm with e | ⟨h0, h1, h2, h3, h4, h5, h6⟩
    · injection e with e1 e2; exact absurd e2 h
    · have hp := Nm.parse_text ⟨false, d, 0⟩ (.inr ⟨h0, h1, h2, h3, h4, by show (-1000 : Int) ≤ 0; omega, by show (0 : Int) ≤ 1000; omega⟩)
      have ht : Nm.text ⟨false, d, 0⟩ = d := by
        unfold Nm.text
        simp [h]
      rw [ht] at hp
      exact ⟨⟨⟨by rw [hp], by rw [hp]⟩, h5⟩, h6⟩
  · rintro ⟨⟨⟨h1, h2⟩, h5⟩, h6⟩
    have hm := Nm.parse_may d
    rw [h2] at hm
    rcases hm with e | ⟨g0, g1, g2, g3, g4, _, _⟩
    · injection e with e1 e2; exact absurd e2 h
    · exact May_mayNum (.inr ⟨g0, g1, g2, g3, g4, h5, h6⟩)

end Go.Proofs.YtccacjkogdmleaaDoor

/- Ms: Ri Rj, in one text. -/
/- The walks of layer 3: the program's mayElements, mayMembers, mayWithin, May. -/
namespace Go.Proofs.YtccacjkogdmleaaDoor
open Go.RowKit Js
def MayingL (w : World) (l : List Vl) (i : Value) (wr : World) : Prop :=
  ∃ j : Nat, j ≤ l.length ∧ i = .int .i64 j ∧ mayL l = mayL (l.drop j) ∧ Below w.heap.size w wr

/-- So far the members may be, and their keys rise. -/
def OkM (m : List Js.Mem) (j : Nat) : Prop := ∀ i p, i < j → m[i]? = some p → (St.text p.1 = true ∧ p.2.may = true) ∧ ∀ q, 0 < i → m[i - 1]? = some q → Lib.compareBytes q.1 p.1 = -1
theorem rises_of : ∀ (ks : List (List UInt8)), (∀ i a b, ks[i]? = some a → ks[i + 1]? = some b → Lib.compareBytes a b = -1) → rises ks = true
  | [], _ => rfl
  | [a], _ => rfl
  | a :: b :: r, h => by
    simp only [rises, Bool.and_eq_true, decide_eq_true_eq]
    exact ⟨h 0 a b rfl rfl, rises_of (b :: r) fun i x y hx hy => h (i + 1) x y (by simpa using hx) (by simpa using hy)⟩
theorem OkM.all {m : List Js.Mem} (h : OkM m m.length) : (mayM m && rises (m.map (·.1))) = true := by
  rw [Bool.and_eq_true]
  constructor
  · rw [mayM_iff]
    intro p hp
    obtain ⟨i, hi⟩ := List.getElem?_of_mem hp
    exact (h i p (List.getElem?_eq_some_iff.1 hi).1 hi).1
  · refine rises_of _ fun i a b ha hb => ?_
    rw [List.getElem?_map] at ha hb
    cases hi : m[i]? with
    | none => rw [hi] at ha; cases ha
    | some p =>
      cases hj : m[i + 1]? with
      | none => rw [hj] at hb; cases hb
      | some q =>
        rw [hi] at ha; rw [hj] at hb
        cases ha; cases hb
        exact (h (i + 1) q (List.getElem?_eq_some_iff.1 hj).1 hj).2 p (by omega) (by simpa using hi)
theorem OkM.step {m : List Js.Mem} {j : Nat} (h : OkM m j) {p : Js.Mem} (hp : m[j]? = some p) (h1 : St.text p.1 = true) (h2 : p.2.may = true) (h3 : ∀ q, 0 < j → m[j - 1]? = some q → Lib.compareBytes q.1 p.1 = -1) : OkM m (j + 1) := by
  intro i p' hi hp'
  by_cases e : i = j
  · subst e
    rw [hp] at hp'; cases hp'
    exact ⟨⟨h1, h2⟩, h3⟩
  · exact h i p' (by omega) hp'
theorem okM_text {m : List Js.Mem} {j : Nat} {p : Js.Mem} (hp : m[j]? = some p) (h : ¬ (St.text p.1 = true ∧ p.2.may = true)) : (mayM m && rises (m.map (·.1))) = false := by
  rw [Bool.and_eq_false_iff]
  left
  rw [Bool.eq_false_iff]
  intro hm
  exact h ((mayM_iff m).1 hm p (List.mem_of_getElem? hp))
theorem okM_rise {m : List Js.Mem} {j : Nat} {p q : Js.Mem} (hj : 0 < j) (hp : m[j]? = some p) (hq : m[j - 1]? = some q) (h : ¬ Lib.compareBytes q.1 p.1 = -1) : (mayM m && rises (m.map (·.1))) = false := by
  rw [Bool.and_eq_false_iff]
  right
  rw [Bool.eq_false_iff]
  intro hm
  exact h (rises_at hm (i := j - 1) (j := j) (by omega) (by simp [hq]) (by simp [hp]))

def MayingM (w : World) (m : List Js.Mem) (i : Value) (wr : World) : Prop :=
  ∃ j : Nat, j ≤ m.length ∧ i = .int .i64 j ∧ OkM m j ∧ Below w.heap.size w wr

end Go.Proofs.YtccacjkogdmleaaDoor

/- The walks of layer 3: the program's mayWithin, May. -/
namespace Go.Proofs.YtccacjkogdmleaaDoor
open Go.RowKit Js

theorem may_parts {k : Int} {b : Bool} {n : Nm.Num} {s : List UInt8} {l : List Vl} {m : List Js.Mem} (q0 q1 q2 q3 q4 : Bool) (h0 : ownOf k b n s l.length m.length = q0) (h1 : mayNum n = q1) (h2 : St.text s = q2) (h3 : mayL l = q3) (h4 : (mayM m && rises (m.map (·.1))) = q4) :
    (Vl.mk k b n s l m).may = (q0 && q1 && q2 && q3 && q4) := by
  subst h0 h1 h2 h3 h4; rfl

end Go.Proofs.YtccacjkogdmleaaDoor

/- Mt: Rk Rl Rm, in one text. -/
/- The walks of layer 3: up. -/
namespace Go.Proofs.YtccacjkogdmleaaDoor
open Go.RowKit Js

/-- An empty array as it stands in a slot. -/
abbrev arr0 (k : Int) : Value := .agg #[.int .i64 k, .bool false, .bool false, .string ⟨#[]⟩, .int .i64 0, .string ⟨#[]⟩, .slice none 0 0, .slice none 0 0]
theorem arr0_in (c : Cl) (k : Int) : (Vl.mk k false Nm.Num.zero [] [] []).In c (arr0 k) := leaf_in c k false Nm.Num.zero []
theorem arr0_slim (k : Int) (N : Nat) : (Vl.mk k false Nm.Num.zero [] [] []).slim N := by simp [Vl.slim, slimL, slimM, Nm.Num.zero]

end Go.Proofs.YtccacjkogdmleaaDoor

/- What Value of the laws tells, in the words that the laws' walks want; values in blocks. -/
namespace Go.Proofs.YtccacjkogdmleaaDoor
open Go.RowKit Js

/-- A value that was read of a text that isn't long. -/
def Fine (v : Vl) : Prop := v.may = true ∧ v.size ≤ 2000 ∧ v.depth ≤ 32 ∧ v.levels ≤ 32 ∧ v.slim 80000
theorem fine_of {s : List UInt8} {v : Vl} {u : List UInt8} (hs : s.length ≤ 2000) (h : Ps.parse s = .ok v u) : Fine v := by
  have ht := Ps.parse_told s
  rw [h] at ht
  have hl := may_levels v ht.1.1
  have h1 := ht.1.2
  have h2 := ht.2
  exact ⟨ht.1.1, by omega, by omega, by omega, Ps.parse_slim h⟩
mutual
theorem slim_mono {N M : Nat} (h : N ≤ M) : ∀ v : Vl, v.slim N → v.slim M
  | .mk k b n s l m, hv => by
    simp only [Vl.slim] at hv ⊢
    exact ⟨by omega, by omega, slimL_mono h l hv.2.2.1, slimM_mono h m hv.2.2.2⟩
theorem slimL_mono {N M : Nat} (h : N ≤ M) : ∀ l : List Vl, slimL N l → slimL M l
  | [], _ => trivial
  | v :: l, hv => by
    simp only [slimL] at hv ⊢
    exact ⟨slim_mono h v hv.1, slimL_mono h l hv.2⟩
theorem slimM_mono {N M : Nat} (h : N ≤ M) : ∀ m : List Js.Mem, slimM N m → slimM M m
  | [], _ => trivial
  | p :: m, hv => by
    simp only [slimM] at hv ⊢
    exact ⟨slimP_mono h p hv.1, slimM_mono h m hv.2⟩
theorem slimP_mono {N M : Nat} (h : N ≤ M) : ∀ p : Js.Mem, slimP N p → slimP M p
  | (k, v), hv => by
    simp only [slimP] at hv ⊢
    exact ⟨by omega, slim_mono h v hv.2⟩
end

/-- What Value tells. -/
def Told (w : World) (e : Ending) (w' : World) : Prop :=
  ∃ v x c, e = .returned (.tuple #[x, .int .i64 c]) ∧ v.In w'.cell? x ∧ Below w.heap.size w w' ∧ (c = 0 ∨ (c = 1 ∧ Fine v))
/-- A value's parts stand in a block. -/
def At8 (w : World) (g : Nat) (c0 c1 c2 c3 c4 c5 c6 c7 : Value) : Prop :=
  w.cell? ⟨g, 0, none⟩ = some c0 ∧ w.cell? ⟨g, 1, none⟩ = some c1 ∧ w.cell? ⟨g, 2, none⟩ = some c2 ∧ w.cell? ⟨g, 3, none⟩ = some c3 ∧
  w.cell? ⟨g, 4, none⟩ = some c4 ∧ w.cell? ⟨g, 5, none⟩ = some c5 ∧ w.cell? ⟨g, 6, none⟩ = some c6 ∧ w.cell? ⟨g, 7, none⟩ = some c7
section
variable {w w' : World} {g : Nat} {c0 c1 c2 c3 c4 c5 c6 c7 : Value}
theorem At8.on (h : At8 w g c0 c1 c2 c3 c4 c5 c6 c7) (hb : Below w.heap.size w w') : At8 w' g c0 c1 c2 c3 c4 c5 c6 c7 := by
  have hl : g < w.heap.size := World.block_lt_of_cell? w _ h.1
  have hc : ∀ j, w'.cell? ⟨g, j, none⟩ = w.cell? ⟨g, j, none⟩ := fun j => hb.cell (p := ⟨g, j, none⟩) hl
  obtain ⟨h0, h1, h2, h3, h4, h5, h6, h7⟩ := h
  exact ⟨(hc 0).trans h0, (hc 1).trans h1, (hc 2).trans h2, (hc 3).trans h3, (hc 4).trans h4, (hc 5).trans h5, (hc 6).trans h6, (hc 7).trans h7⟩
theorem Blk.at8 {t : TypeId} (h : Blk w g t #[c0, c1, c2, c3, c4, c5, c6, c7]) : At8 w g c0 c1 c2 c3 c4 c5 c6 c7 := h.eight
end
end Go.Proofs.YtccacjkogdmleaaDoor

/- The walks of layer 3: ValueTells. -/
namespace Go.Proofs.YtccacjkogdmleaaDoor
open Go.RowKit Js

/-- Two values in their blocks; what is older is as it was. -/
def VTwo (W : World) (g h : Nat) (a0 a1 a2 a3 a4 a5 a6 a7 b0 b1 b2 b3 b4 b5 b6 b7 : Value) (w' : World) : Prop :=
  At8 w' g a0 a1 a2 a3 a4 a5 a6 a7 ∧ At8 w' h b0 b1 b2 b3 b4 b5 b6 b7 ∧ Below W.heap.size W w'
theorem VTwo.on {W : World} {g h : Nat} {a0 a1 a2 a3 a4 a5 a6 a7 b0 b1 b2 b3 b4 b5 b6 b7 : Value} {w' w'' : World} (H : VTwo W g h a0 a1 a2 a3 a4 a5 a6 a7 b0 b1 b2 b3 b4 b5 b6 b7 w') (hb : Below w'.heap.size w' w'') : VTwo W g h a0 a1 a2 a3 a4 a5 a6 a7 b0 b1 b2 b3 b4 b5 b6 b7 w'' :=
  ⟨H.1.on hb, H.2.1.on hb, H.2.2.trans (hb.mono H.2.2.size)⟩

end Go.Proofs.YtccacjkogdmleaaDoor


