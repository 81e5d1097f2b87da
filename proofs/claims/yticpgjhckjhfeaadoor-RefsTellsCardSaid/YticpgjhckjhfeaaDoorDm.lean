/- What the program's teller holds, and what its calls go over and leave (layer 11). -/
import Derived.Test.YticpgjhckjhfeaaDoorDc
import Derived.Test.YticpgjhckjhfeaaDoorDj
namespace Go.Proofs.YticpgjhckjhfeaaDoor
open Go.RowKit Js Pt

/-- A node in the teller's row: done, or still waiting for its keywords. -/
inductive Cm.Wn where
  | ok (N : Cm.Node)
  | wait (p : List UInt8) (a b : Bool) (A : Option Addr) (n c : Nat)
def waitL (p : List UInt8) (a b : Bool) (A : Option Addr) (n c : Nat) : List Value := [.string ⟨p.toArray⟩, .bool a, .bool b, .slice A n c]
def ItW (c : Cl) : Cm.Wn → List Value → Prop
  | .ok N, cs => ItN c N cs
  | .wait p a b A n k, cs => cs = waitL p a b A n k
theorem ItW.mono {c c' : Cl} (h : c.le c') {x : Cm.Wn} {cs : List Value} (hs : ItW c x cs) : ItW c' x cs := by
  cases x with
  | ok N => exact ItN.mono h hs
  | wait p a b A n k => exact hs

section
variable {α : Type} {It : Cl → α → List Value → Prop} {T : TypeId} {k : Nat} {X X' : Nat → Prop} {w : World} {B : Nat} {A : Option Addr} {cp : Nat} {acc : List α}
/-- One item is told otherwise, as it lies. -/
theorem RowX.put (hmono : ∀ {c c' : Cl}, c.le c' → ∀ {a cs}, It c a cs → It c' a cs) (h : RowX It T k X w B A cp acc) (hX : ∀ b, X' b → X b) {i : Nat} {x x' : α} {cs : List Value} (hi : acc[i]? = some x) (hcs : ∀ c cs', It c x cs' → cs' = cs) {Rn : Nat → Prop} (hit : It (w.on Rn) x' cs) (hRn : ∀ b, Rn b → b < w.heap.size ∧ ¬ X' b ∧ ∀ ad, A = some ad → b ≠ ad.block) : RowX It T k X' w B A cp (acc.set i x') := by
  obtain ⟨R, flat, hR, hown, h1, hel⟩ := h
  have hil := (List.getElem?_eq_some_iff.1 hi).1
  refine ⟨fun b => R b ∨ Rn b, flat, fun b hb => ?_, by rw [List.length_set]; exact hown, h1, fun j a hj => ?_⟩
  · rcases hb with hb | hb
    · exact ⟨(hR b hb).1, fun q => (hR b hb).2.1 (hX b q), (hR b hb).2.2⟩
    · exact hRn b hb
  · by_cases e : i = j
    · subst e
      rw [List.getElem?_set_self hil] at hj
      injection hj with hj
      subst hj
      obtain ⟨cs0, h2, h3⟩ := hel i x hi
      rw [hcs _ _ h2] at h3
      exact ⟨cs, hmono (on_sub fun b h => .inr h) hit, h3⟩
    · rw [List.getElem?_set_ne e] at hj
      obtain ⟨cs0, h2, h3⟩ := hel j a hj
      exact ⟨cs0, hmono (on_sub fun b h => .inl h) h2, h3⟩
/-- A cell of an item is written. -/
theorem RowX.setC (hmono : ∀ {c c' : Cl}, c.le c' → ∀ {a cs}, It c a cs → It c' a cs) (hlen : ∀ c a cs, It c a cs → cs.length = k) (h : RowX It T k X w B A cp acc) {i : Nat} {x x' : α} {cs : List Value} {j : Nat} {u : Value} (hi : acc[i]? = some x) (hcs : ∀ c cs', It c x cs' → cs' = cs) (hj : j < k) (hit : ∀ c, It c x' (cs.set j u)) (hu : u.oneCell' = true) :
    ∃ g, A = some ⟨g, 0, none⟩ ∧ (∀ q z, cs[q]? = some z → w.cell? ⟨g, i * k + q, none⟩ = some z) ∧ w.frozen? ⟨g, i * k + j, none⟩ = false ∧ B ≤ g ∧ g < w.heap.size ∧ RowX It T k X (w.setCell ⟨g, i * k + j, none⟩ u) B A cp (acc.set i x') := by
  have hle := h.le
  obtain ⟨R, flat, hR, hown, h1, hel⟩ := h
  have hil := (List.getElem?_eq_some_iff.1 hi).1
  obtain ⟨cs0, h2, h3⟩ := hel i x hi
  rw [hcs _ _ h2] at h3
  have hcl : cs.length = k := by rw [← hcs _ _ h2]; exact hlen _ _ _ h2
  obtain ⟨g, rfl⟩ : ∃ g, A = some ⟨g, 0, none⟩ := by
    cases hA : A with
    | none => subst hA; have hb := (own_le hown).2.2.1 rfl; omega
    | some ad => subst hA; obtain ⟨g, rfl, _⟩ := (own_le hown).2.2.2 ad rfl; exact ⟨g, rfl⟩
  obtain ⟨g', hg', hbg, hgl⟩ := hle.2.2 _ rfl
  obtain rfl : g = g' := by injection hg'
  refine ⟨g, rfl, fun q z hz => own_cell hown (i * k + q) _ (h3 q z hz), World.ownsRow.frozenAt hown _, hbg, hgl, ?_⟩
  have hko : ∀ b, b ≠ g → (w.setCell ⟨g, i * k + j, none⟩ u).heap[b]? = w.heap[b]? := fun b hb => Below.heap_setCell w ⟨g, i * k + j, none⟩ _ b hb
  refine ⟨R, flat.set (i * k + j) u, fun b hb => ⟨by simpa [World.setCell] using (hR b hb).1, (hR b hb).2⟩, ?_, ?_, ?_⟩
  · rw [List.length_set]; exact own_set hown _ _
  · intro z hz
    rcases List.mem_or_eq_of_mem_set hz with q | q
    · exact h1 z q
    · subst q; exact hu
  · have hle2 : Cl.le (w.on R) ((w.setCell ⟨g, i * k + j, none⟩ u).on R) := on_keep (fun b hb _ => hb) (fun b hb _ => hko b ((hR b hb).2.2 _ rfl))
    intro q a hq
    by_cases e : i = q
    · subst e
      rw [List.getElem?_set_self hil] at hq
      injection hq with hq
      subst hq
      refine ⟨cs.set j u, hit _, fun p z hz => ?_⟩
      by_cases ep : j = p
      · subst ep
        rw [List.getElem?_set_self (by omega)] at hz
        have := h3 j _ (List.getElem?_eq_getElem (by omega))
        rw [List.getElem?_set_self (List.getElem?_eq_some_iff.1 this).1]; exact hz
      · rw [List.getElem?_set_ne ep] at hz
        rw [List.getElem?_set_ne (by omega)]; exact h3 p z hz
    · rw [List.getElem?_set_ne e] at hq
      obtain ⟨cs1, h4, h5⟩ := hel q a hq
      refine ⟨cs1, hmono hle2 h4, fun p z hz => ?_⟩
      have hp : p < k := by have := (List.getElem?_eq_some_iff.1 hz).1; rw [hlen _ _ _ h4] at this; exact this
      have hne : i * k + j ≠ q * k + p := fun e2 => e (by
        have h6 : (i * k + j) / k = i := by rw [Nat.mul_comm, Nat.mul_add_div (by omega), Nat.div_eq_of_lt hj]; rfl
        have h7 : (q * k + p) / k = q := by rw [Nat.mul_comm, Nat.mul_add_div (by omega), Nat.div_eq_of_lt hp]; rfl
        rw [← h6, e2, h7])
      rw [List.getElem?_set_ne hne]
      exact h5 p z hz
end
theorem ItN.len {c : Cl} {N : Cm.Node} {cs : List Value} (h : ItN c N cs) : cs.length = 4 := by
  obtain ⟨A, cp, rfl, _⟩ := h; rfl
theorem ItW.len (c : Cl) (x : Cm.Wn) (cs : List Value) (h : ItW c x cs) : cs.length = 4 := by
  cases x with
  | ok N => exact ItN.len h
  | wait p a b A n k => rw [show cs = waitL p a b A n k from h]; rfl

section
variable {gm : Nat} {Y Y0 Y' : Nat → Prop} {A A' : Option Addr} {cp cp' : Nat} {acc : List Cm.Wn} {w w' : World}
end
abbrev zeroKey : Array Value := #[.string ⟨#[]⟩, .int .i64 0, .bool false, .bool false, .string ⟨#[]⟩, .int .i64 0, .string ⟨#[]⟩, .slice none 0 0, .slice none 0 0, .slice none 0 0]
/-- A keyword, and all within it. -/
def Cm.keyN (nd : Nat → Cm.Names → Vl → Cm.Res (List Cm.Node)) (P : Cm.Names) (off : Nat) (nm : List UInt8) (v : Vl) : Cm.Res (List (List UInt8 × Nat) × List Cm.Node) :=
  if Sh.shape nm v = 0 then Cm.kidsN nd (Sh.single nm) (P ++ [nm]) off (Sh.kids nm v) else .bad (Sh.shape nm v) (P ++ [nm])
theorem Cm.keyN_next {nd : Nat → Cm.Names → Vl → Cm.Res (List Cm.Node)} {P : Cm.Names} {m : List Mem} {off j : Nat} {keys : List Cm.Key} {a : List Cm.Node} (hj : j < m.length) (h : Cm.memsN nd P off (m.take j) = .ok (keys, a)) :
    (∀ ks b, Cm.keyN nd P (off + a.length) (m[j]).1 (m[j]).2 = .ok (ks, b) → Cm.memsN nd P off (m.take (j + 1)) = .ok (keys ++ [⟨(m[j]).1, (m[j]).2, ks⟩], a ++ b)) ∧
      (∀ c p, Cm.keyN nd P (off + a.length) (m[j]).1 (m[j]).2 = .bad c p → Cm.memsN nd P off m = .bad c p) := by
  have hn := Cm.memsN_next hj h
  unfold Cm.keyN
  by_cases h0 : Sh.shape (m[j]).1 (m[j]).2 = 0
  · rw [if_pos h0]; exact hn.2 h0
  · rw [if_neg h0]
    refine ⟨fun ks b e => (by cases e), fun c p e => ?_⟩
    injection e with e1 e2
    subst e1 e2
    exact hn.1 h0

section
variable {w : World} {gm : Nat} {Y : Nat → Prop} {A : Option Addr} {cs : Array Value} {A' A'' : Option Addr} {cp' cp'' : Nat} {acc : List Cm.Wn} {P : Cm.Names} {r : List Cm.Node} {Ak Ak' : Option Addr} {ck ck' : Nat} {keys : List Cm.Key} {W W' : World}
theorem wait_at (acc : List Cm.Wn) (x : Cm.Wn) (l : List Cm.Wn) : (acc ++ x :: l)[acc.length]? = some x := by
  rw [List.getElem?_append_right (Nat.le_refl _), Nat.sub_self]; rfl
theorem wait_set (acc : List Cm.Wn) (x x' : Cm.Wn) (l : List Cm.Wn) : (acc ++ x :: l).set acc.length x' = acc ++ x' :: l := by
  rw [List.set_append_right _ _ (Nat.le_refl _), Nat.sub_self]; rfl
end

/-- The blocks that are still written while a keyword is being made. -/
def Yk (w : World) (Y : Nat → Prop) (gk : Nat) (Ad : Option Addr) (b : Nat) : Prop := Y b ∨ b = w.heap.size + 1 ∨ b = gk ∨ Bk Ad b
section
variable {w : World} {gm : Nat} {Y : Nat → Prop} {A : Option Addr} {A' A'' : Option Addr} {cp' cp'' : Nat} {acc : List Cm.Wn} {r : List Cm.Node} {cs : Array Value} {gk : Nat} {kc : List Value} {Ad Ad' : Option Addr} {cd cd' : Nat} {ks ks' : List (List UInt8 × Nat)} {W W' : World}
end

end Go.Proofs.YticpgjhckjhfeaaDoor

