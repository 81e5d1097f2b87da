/- Mt: Rk Rl Rm, in one text. -/
import Derived.Test.YtfolfibembplbaaDoorRd
import Derived.Test.YtfolfibembplbaaDoorRg
import Derived.Test.YtfolfibembplbaaDoorMr
import Derived.Test.YtfolfibembplbaaDoorMe
import Derived.Test.YtfolfibembplbaaDoorMg
import Derived.Deep.RegionHeld3
/- The walks of layer 3: up. -/
namespace Go.Proofs.YtfolfibembplbaaDoor
open Go.RowKit Js

/-- An empty array as it stands in a slot. -/
abbrev arr0 (k : Int) : Value := .agg #[.int .i64 k, .bool false, .bool false, .string ⟨#[]⟩, .int .i64 0, .string ⟨#[]⟩, .slice none 0 0, .slice none 0 0]
theorem arr0_in (c : Cl) (k : Int) : (Vl.mk k false Nm.Num.zero [] [] []).In c (arr0 k) := leaf_in c k false Nm.Num.zero []
theorem arr0_slim (k : Int) (N : Nat) : (Vl.mk k false Nm.Num.zero [] [] []).slim N := by simp [Vl.slim, slimL, slimM, Nm.Num.zero]

end Go.Proofs.YtfolfibembplbaaDoor

/- What Value of the laws tells, in the words that the laws' walks want; values in blocks. -/
namespace Go.Proofs.YtfolfibembplbaaDoor
open Go.RowKit Js

/-- A value that was read of a text that isn't long. -/
def Fine (v : Vl) : Prop := v.may = true ∧ v.size ≤ 2000 ∧ v.depth ≤ 32 ∧ v.levels ≤ 32 ∧ v.slim 80000
theorem fine_of {s : List UInt8} {v : Vl} {u : List UInt8} (hs : s.length ≤ 2000) (h : Ps.parse s = .ok v u) : Fine v := by
  have ht := Ps.parse_told s
  rw [h] at ht
  have hl := may_levels v ht.1.1
  have h1 := ht.1.2
  have h2 := ht.2
  exact ⟨ht.1.1, by omega, by omega, by omega, Ps.parse_slim h⟩
mutual
theorem slim_mono {N M : Nat} (h : N ≤ M) : ∀ v : Vl, v.slim N → v.slim M
  | .mk k b n s l m, hv => by
    simp only [Vl.slim] at hv ⊢
    exact ⟨by omega, by omega, slimL_mono h l hv.2.2.1, slimM_mono h m hv.2.2.2⟩
theorem slimL_mono {N M : Nat} (h : N ≤ M) : ∀ l : List Vl, slimL N l → slimL M l
  | [], _ => trivial
  | v :: l, hv => by
    simp only [slimL] at hv ⊢
    exact ⟨slim_mono h v hv.1, slimL_mono h l hv.2⟩
theorem slimM_mono {N M : Nat} (h : N ≤ M) : ∀ m : List Js.Mem, slimM N m → slimM M m
  | [], _ => trivial
  | p :: m, hv => by
    simp only [slimM] at hv ⊢
    exact ⟨slimP_mono h p hv.1, slimM_mono h m hv.2⟩
theorem slimP_mono {N M : Nat} (h : N ≤ M) : ∀ p : Js.Mem, slimP N p → slimP M p
  | (k, v), hv => by
    simp only [slimP] at hv ⊢
    exact ⟨by omega, slim_mono h v hv.2⟩
end

/-- What Value tells. -/
def Told (w : World) (e : Ending) (w' : World) : Prop :=
  ∃ v x c, e = .returned (.tuple #[x, .int .i64 c]) ∧ v.In w'.cell? x ∧ Below w.heap.size w w' ∧ (c = 0 ∨ (c = 1 ∧ Fine v))
theorem value_told (s : ByteArray) (hs : s.size ≤ 1000000000000000000) (w : World) : Calls Tryd.prog 5 #[.string s] w (Told w) := by
  refine (value_law s hs w).mono ?_
  rintro e w' ⟨hb, ⟨x, rfl, hin⟩ | ⟨v, u, x, hsz, hp, rfl, hin⟩⟩
  · exact ⟨_, x, 0, rfl, In.keep (le_on _ _) _ _ hin, hb, .inl rfl⟩
  · exact ⟨v, x, 1, rfl, In.keep (le_on _ _) _ _ hin, hb, .inr ⟨rfl, fine_of (by rw [← Lib.size_eq]; exact hsz) hp⟩⟩

/-- A value's parts stand in a block. -/
def At8 (w : World) (g : Nat) (c0 c1 c2 c3 c4 c5 c6 c7 : Value) : Prop :=
  w.cell? ⟨g, 0, none⟩ = some c0 ∧ w.cell? ⟨g, 1, none⟩ = some c1 ∧ w.cell? ⟨g, 2, none⟩ = some c2 ∧ w.cell? ⟨g, 3, none⟩ = some c3 ∧
  w.cell? ⟨g, 4, none⟩ = some c4 ∧ w.cell? ⟨g, 5, none⟩ = some c5 ∧ w.cell? ⟨g, 6, none⟩ = some c6 ∧ w.cell? ⟨g, 7, none⟩ = some c7
section
variable {w w' : World} {g : Nat} {c0 c1 c2 c3 c4 c5 c6 c7 : Value}
theorem At8.on (h : At8 w g c0 c1 c2 c3 c4 c5 c6 c7) (hb : Below w.heap.size w w') : At8 w' g c0 c1 c2 c3 c4 c5 c6 c7 := by
  have hl : g < w.heap.size := World.block_lt_of_cell? w _ h.1
  have hc : ∀ j, w'.cell? ⟨g, j, none⟩ = w.cell? ⟨g, j, none⟩ := fun j => hb.cell (p := ⟨g, j, none⟩) hl
  obtain ⟨h0, h1, h2, h3, h4, h5, h6, h7⟩ := h
  exact ⟨(hc 0).trans h0, (hc 1).trans h1, (hc 2).trans h2, (hc 3).trans h3, (hc 4).trans h4, (hc 5).trans h5, (hc 6).trans h6, (hc 7).trans h7⟩
theorem Blk.at8 {t : TypeId} (h : Blk w g t #[c0, c1, c2, c3, c4, c5, c6, c7]) : At8 w g c0 c1 c2 c3 c4 c5 c6 c7 := h.eight
end
end Go.Proofs.YtfolfibembplbaaDoor

/- The walks of layer 3: ValueTells. -/
namespace Go.Proofs.YtfolfibembplbaaDoor
open Go.RowKit Js

/-- Two values in their blocks; what is older is as it was. -/
def VTwo (W : World) (g h : Nat) (a0 a1 a2 a3 a4 a5 a6 a7 b0 b1 b2 b3 b4 b5 b6 b7 : Value) (w' : World) : Prop :=
  At8 w' g a0 a1 a2 a3 a4 a5 a6 a7 ∧ At8 w' h b0 b1 b2 b3 b4 b5 b6 b7 ∧ Below W.heap.size W w'
theorem VTwo.on {W : World} {g h : Nat} {a0 a1 a2 a3 a4 a5 a6 a7 b0 b1 b2 b3 b4 b5 b6 b7 : Value} {w' w'' : World} (H : VTwo W g h a0 a1 a2 a3 a4 a5 a6 a7 b0 b1 b2 b3 b4 b5 b6 b7 w') (hb : Below w'.heap.size w' w'') : VTwo W g h a0 a1 a2 a3 a4 a5 a6 a7 b0 b1 b2 b3 b4 b5 b6 b7 w'' :=
  ⟨H.1.on hb, H.2.1.on hb, H.2.2.trans (hb.mono H.2.2.size)⟩

end Go.Proofs.YtfolfibembplbaaDoor


