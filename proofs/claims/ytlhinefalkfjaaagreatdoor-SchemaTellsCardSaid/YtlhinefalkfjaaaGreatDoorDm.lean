/- What the program's teller holds, and what its calls go over and leave (layer 11). -/
import Derived.Test.YtlhinefalkfjaaaGreatDoorDc
import Derived.Test.YtlhinefalkfjaaaGreatDoorDj
namespace Go.Proofs.YtlhinefalkfjaaaGreatDoor
open Go.RowKit Js Pt

inductive Cm.Wn where
  | ok (N : Cm.Node)
  | wait (p : List UInt8) (a b : Bool) (A : Option Addr) (n c : Nat)
def waitL (p : List UInt8) (a b : Bool) (A : Option Addr) (n c : Nat) : List Value := [.string ⟨p.toArray⟩, .bool a, .bool b, .slice A n c]
def ItW (c : Cl) : Cm.Wn → List Value → Prop
  | .ok N, cs => ItN c N cs
  | .wait p a b A n k, cs => cs = waitL p a b A n k
theorem ItW.mono {c c' : Cl} (h : c.le c') {x : Cm.Wn} {cs : List Value} (hs : ItW c x cs) : ItW c' x cs := by
  cases x with
  | ok N => exact ItN.mono h hs
  | wait p a b A n k => exact hs

section
variable {α : Type} {It : Cl → α → List Value → Prop} {T : TypeId} {k : Nat} {X X' : Nat → Prop} {w : World} {B : Nat} {A : Option Addr} {cp : Nat} {acc : List α}
theorem RowX.put (hmono : ∀ {c c' : Cl}, c.le c' → ∀ {a cs}, It c a cs → It c' a cs) (h : RowX It T k X w B A cp acc) (hX : ∀ b, X' b → X b) {i : Nat} {x x' : α} {cs : List Value} (hi : acc[i]? = some x) (hcs : ∀ c cs', It c x cs' → cs' = cs) {Rn : Nat → Prop} (hit : It (w.on Rn) x' cs) (hRn : ∀ b, Rn b → b < w.heap.size ∧ ¬ X' b ∧ ∀ ad, A = some ad → b ≠ ad.block) : RowX It T k X' w B A cp (acc.set i x') := by
  obtain ⟨R, flat, hR, hown, h1, hel⟩ := h
  have hil := (List.getElem?_eq_some_iff.1 hi).1
  refine ⟨fun b => R b ∨ Rn b, flat, fun b hb => ?_, by rw [List.length_set]; exact hown, h1, fun j a hj => ?_⟩
  · rcases hb with hb | hb
    · exact ⟨(hR b hb).1, fun q => (hR b hb).2.1 (hX b q), (hR b hb).2.2⟩
    · exact hRn b hb
  · by_cases e : i = j
    · subst e
      rw [List.getElem?_set_self hil] at hj
      injection hj with hj
      subst hj
      obtain ⟨cs0, h2, h3⟩ := hel i x hi
      rw [hcs _ _ h2] at h3
      exact ⟨cs, hmono (on_sub fun b h => .inr h) hit, h3⟩
    · rw [List.getElem?_set_ne e] at hj
      obtain ⟨cs0, h2, h3⟩ := hel j a hj
      exact ⟨cs0, hmono (on_sub fun b h => .inl h) h2, h3⟩
theorem RowX.setC (hmono : ∀ {c c' : Cl}, c.le c' → ∀ {a cs}, It c a cs → It c' a cs) (hlen : ∀ c a cs, It c a cs → cs.length = k) (h : RowX It T k X w B A cp acc) {i : Nat} {x x' : α} {cs : List Value} {j : Nat} {u : Value} (hi : acc[i]? = some x) (hcs : ∀ c cs', It c x cs' → cs' = cs) (hj : j < k) (hit : ∀ c, It c x' (cs.set j u)) (hu : u.oneCell' = true) :
    ∃ g, A = some ⟨g, 0, none⟩ ∧ (∀ q z, cs[q]? = some z → w.cell? ⟨g, i * k + q, none⟩ = some z) ∧ w.frozen? ⟨g, i * k + j, none⟩ = false ∧ B ≤ g ∧ g < w.heap.size ∧ RowX It T k X (w.setCell ⟨g, i * k + j, none⟩ u) B A cp (acc.set i x') := by
  have hle := h.le
  obtain ⟨R, flat, hR, hown, h1, hel⟩ := h
  have hil := (List.getElem?_eq_some_iff.1 hi).1
  obtain ⟨cs0, h2, h3⟩ := hel i x hi
  rw [hcs _ _ h2] at h3
  have hcl : cs.length = k := by rw [← hcs _ _ h2]; exact hlen _ _ _ h2
  obtain ⟨g, rfl⟩ : ∃ g, A = some ⟨g, 0, none⟩ := by
    cases hA : A with
    | none => subst hA; have hb := (own_le hown).2.2.1 rfl; omega
    | some ad => subst hA; obtain ⟨g, rfl, _⟩ := (own_le hown).2.2.2 ad rfl; exact ⟨g, rfl⟩
  obtain ⟨g', hg', hbg, hgl⟩ := hle.2.2 _ rfl
  obtain rfl : g = g' := by injection hg'
  refine ⟨g, rfl, fun q z hz => own_cell hown (i * k + q) _ (h3 q z hz), World.ownsRow.frozenAt hown _, hbg, hgl, ?_⟩
  have hko : ∀ b, b ≠ g → (w.setCell ⟨g, i * k + j, none⟩ u).heap[b]? = w.heap[b]? := fun b hb => Below.heap_setCell w ⟨g, i * k + j, none⟩ _ b hb
  refine ⟨R, flat.set (i * k + j) u, fun b hb => ⟨by simpa [World.setCell] using (hR b hb).1, (hR b hb).2⟩, ?_, ?_, ?_⟩
  · rw [List.length_set]; exact own_set hown _ _
  · intro z hz
    rcases List.mem_or_eq_of_mem_set hz with q | q
    · exact h1 z q
    · subst q; exact hu
  · have hle2 : Cl.le (w.on R) ((w.setCell ⟨g, i * k + j, none⟩ u).on R) := on_keep (fun b hb _ => hb) (fun b hb _ => hko b ((hR b hb).2.2 _ rfl))
    intro q a hq
    by_cases e : i = q
    · subst e
      rw [List.getElem?_set_self hil] at hq
      injection hq with hq
      subst hq
      refine ⟨cs.set j u, hit _, fun p z hz => ?_⟩
      by_cases ep : j = p
      · subst ep
        rw [List.getElem?_set_self (by omega)] at hz
        have := h3 j _ (List.getElem?_eq_getElem (by omega))
        rw [List.getElem?_set_self (List.getElem?_eq_some_iff.1 this).1]; exact hz
      · rw [List.getElem?_set_ne ep] at hz
        rw [List.getElem?_set_ne (by omega)]; exact h3 p z hz
    · rw [List.getElem?_set_ne e] at hq
      obtain ⟨cs1, h4, h5⟩ := hel q a hq
      refine ⟨cs1, hmono hle2 h4, fun p z hz => ?_⟩
      have hp : p < k := by have := (List.getElem?_eq_some_iff.1 hz).1; rw [hlen _ _ _ h4] at this; exact this
      have hne : i * k + j ≠ q * k + p := fun e2 => e (by
        have h6 : (i * k + j) / k = i := by rw [Nat.mul_comm, Nat.mul_add_div (by omega), Nat.div_eq_of_lt hj]; rfl
        have h7 : (q * k + p) / k = q := by rw [Nat.mul_comm, Nat.mul_add_div (by omega), Nat.div_eq_of_lt hp]; rfl
        rw [← h6, e2, h7])
      rw [List.getElem?_set_ne hne]
      exact h5 p z hz
end
theorem ItN.len {c : Cl} {N : Cm.Node} {cs : List Value} (h : ItN c N cs) : cs.length = 4 := by
  obtain ⟨A, cp, rfl, _⟩ := h; rfl
theorem ItW.len (c : Cl) (x : Cm.Wn) (cs : List Value) (h : ItW c x cs) : cs.length = 4 := by
  cases x with
  | ok N => exact ItN.len h
  | wait p a b A n k => rw [show cs = waitL p a b A n k from h]; rfl

structure Tk (gm : Nat) (Y : Nat → Prop) (A : Option Addr) (cp : Nat) (acc : List Cm.Wn) (w : World) : Prop where
  blk : Blk w gm 68 #[.slice A acc.length cp]
  row : RowX ItW 47 4 (fun b => b = gm ∨ Y b) w (gm + 1) A cp acc
  few : acc.length ≤ 200
  apart : ∀ b, Bk A b → ¬ Y b
  ng : ¬ Y gm
  yl : ∀ b, Y b → b < w.heap.size
section
variable {gm : Nat} {Y Y0 Y' : Nat → Prop} {A A' : Option Addr} {cp cp' : Nat} {acc : List Cm.Wn} {w w' : World}
theorem Tk.lt (h : Tk gm Y A cp acc w) : gm < w.heap.size := h.blk.lt
theorem Tk.rowAt (h : Tk gm Y A cp acc w) {b : Nat} (e : Bk A b) : gm < b ∧ b < w.heap.size := by
  obtain ⟨ad, e, rfl⟩ := e
  obtain ⟨g, rfl, hg, hl⟩ := h.row.le.2.2 ad e
  exact ⟨hg, hl⟩
theorem Tk.but (h : Tk gm Y A cp acc w) (hb : But Y0 w w') (h0 : ∀ b, b < w.heap.size → Y0 b → Y b) (hy : ∀ b, b < w.heap.size → Y' b → Y b) (hl : ∀ b, Y' b → b < w'.heap.size) : Tk gm Y' A cp acc w' where
  blk := hb.blk h.blk (fun k => h.ng (h0 gm h.lt k))
  row := RowX.but (It := ItW) (fun h => ItW.mono h) h.row (hb.sub (Y := fun b => b = gm ∨ Y b) (fun b hb k => .inr (h0 b hb k))) (fun ad e k => by
    have hr := h.rowAt ⟨ad, e, rfl⟩
    rcases k with k | k
    · omega
    · exact h.apart _ ⟨ad, e, rfl⟩ k) (fun b hb k => k.imp id (hy b hb))
  few := h.few
  apart := fun b e k => h.apart b e (hy b (h.rowAt e).2 k)
  ng := fun k => h.ng (hy gm h.lt k)
  yl := hl
theorem Tk.on (h : Tk gm Y A cp acc w) (hb : Below w.heap.size w w') : Tk gm Y A cp acc w' :=
  h.but (Y0 := fun _ => False) (But.of hb) (fun _ _ k => k.elim) (fun _ _ k => k) (fun b k => Nat.lt_of_lt_of_le (h.yl b k) hb.size)
theorem Tk.less (h : Tk gm Y A cp acc w) (hy : ∀ b, b < w.heap.size → Y' b → Y b) (hl : ∀ b, Y' b → b < w.heap.size) : Tk gm Y' A cp acc w :=
  h.but (Y0 := fun _ => False) (But.refl _ _) (fun _ _ k => k.elim) hy hl
theorem Tk.setC (h : Tk gm Y A cp acc w) {i : Nat} {p : List UInt8} {a b : Bool} {Ak : Option Addr} {n ck : Nat} {x' : Cm.Wn} {j : Nat} {u : Value} (hi : acc[i]? = some (.wait p a b Ak n ck)) (hj : j < 4) (hit : ∀ c, ItW c x' ((waitL p a b Ak n ck).set j u)) (hu : u.oneCell' = true) :
    ∃ g, A = some ⟨g, 0, none⟩ ∧ (∀ q z, (waitL p a b Ak n ck)[q]? = some z → w.cell? ⟨g, i * 4 + q, none⟩ = some z) ∧ w.frozen? ⟨g, i * 4 + j, none⟩ = false ∧ gm < g ∧ g < w.heap.size ∧ Tk gm Y A cp (acc.set i x') (w.setCell ⟨g, i * 4 + j, none⟩ u) := by
  obtain ⟨g, rfl, h1, h2, h3, h4, h5⟩ := RowX.setC (It := ItW) (fun h => ItW.mono h) ItW.len h.row hi (fun c cs' hc => hc) hj hit hu
  refine ⟨g, rfl, h1, h2, h3, h4, ?_, h5, by rw [List.length_set]; exact h.few, h.apart, h.ng, fun b k => by simpa [World.setCell] using h.yl b k⟩
  rw [List.length_set]
  exact (Below.heap_setCell w ⟨g, i * 4 + j, none⟩ _ gm (by simp only; omega)).trans h.blk
theorem Tk.done (h : Tk gm Y A cp acc w) (hY : ∀ b, Y' b → Y b) {i : Nat} {P : Cm.Names} {a b : Bool} {Ak : Option Addr} {ck : Nat} {keys : List Cm.Key} (hi : acc[i]? = some (.wait (text P) a b Ak keys.length ck)) {Rn : Nat → Prop} (hk : SlKey (w.on Rn) Ak keys) (h1 : keys.length ≤ ck) (h2 : ck ≤ maxLen) (hRn : ∀ b, Rn b → b < w.heap.size ∧ ¬ (b = gm ∨ Y' b) ∧ ¬ Bk A b) : Tk gm Y' A cp (acc.set i (.ok ⟨P, a, b, keys⟩)) w where
  blk := by rw [List.length_set]; exact h.blk
  row := RowX.put (It := ItW) (fun h => ItW.mono h) h.row (fun b q => q.imp id (hY b)) hi (fun c cs' hc => hc) (Rn := Rn) ⟨Ak, ck, rfl, hk, h1, h2⟩ (fun b hb => ⟨(hRn b hb).1, (hRn b hb).2.1, fun ad e e2 => (hRn b hb).2.2 ⟨ad, e, e2⟩⟩)
  few := by rw [List.length_set]; exact h.few
  apart := fun b e k => h.apart b e (hY b k)
  ng := fun k => h.ng (hY gm k)
  yl := fun b k => h.yl b (hY b k)
theorem Tk.grow (h : Tk gm Y A cp acc w) {w6 : World} (hb : But (Bk A) w w6) (hr : RowOn A A' w) {x : Cm.Wn} (hrow : RowX ItW 47 4 (fun b => b = gm ∨ Y b) w6 (gm + 1) A' cp' (acc ++ [x])) (hf : acc.length < 200) :
    Tk gm Y A' cp' (acc ++ [x]) (w6.setCell ⟨gm, 0, none⟩ (.slice A' (acc.length + 1) cp')) := by
  have hgm : ¬ Bk A gm := fun k => by have := (h.rowAt k).1; omega
  have hbl := hb.blk h.blk hgm
  have h6 := Blk.setL (l := [.slice A acc.length cp]) hbl 0 (.slice A' (acc.length + 1) cp')
  have hap : ∀ b, Bk A' b → ¬ Y b := fun b e k => by
    rcases hr b e with k2 | k2
    · exact h.apart b k2 k
    · have := h.yl b k; omega
  refine ⟨?_, ?_, by simp; omega, hap, h.ng, fun b k => ?_⟩
  · rw [List.length_append]; exact h6
  · refine RowX.but (It := ItW) (fun h => ItW.mono h) hrow ((But.refl _ w6).set (p := ⟨gm, 0, none⟩) (.inr (.inl rfl)) _) (fun ad e k => ?_) (fun b _ k => k)
    rcases k with k | k
    · obtain ⟨g, rfl, hg, _⟩ := hrow.le.2.2 ad e
      simp only at k; omega
    · exact hap _ ⟨ad, e, rfl⟩ k
  · have := Nat.lt_of_lt_of_le (h.yl b k) hb.size
    simpa [World.setCell] using this
end

def TellP (gm : Nat) (Y : Nat → Prop) (A : Option Addr) (acc : List Cm.Wn) (r : Cm.Res (List Cm.Node)) (w : World) (e : Ending) (w' : World) : Prop :=
  But (LX gm A) w w' ∧ ((∃ (a : List Cm.Node) (A' : Option Addr) (cp' : Nat), r = .ok a ∧ e = .returned .nilIface ∧ Tk gm Y A' cp' (acc ++ a.map .ok) w' ∧ RowOn A A' w) ∨ (∃ (c : Nat) (q : Cm.Names) (b : Nat), r = .bad c q ∧ ¬ c = 0 ∧ e = .returned (spellV b) ∧ w.heap.size ≤ b ∧ SpellAt w' b (text q) c))
abbrev zeroKey : Array Value := #[.string ⟨#[]⟩, .int .i64 0, .bool false, .bool false, .string ⟨#[]⟩, .int .i64 0, .string ⟨#[]⟩, .slice none 0 0, .slice none 0 0, .slice none 0 0]
def KeyP (gm : Nat) (Y : Nat → Prop) (A : Option Addr) (acc : List Cm.Wn) (nm : List UInt8) (v : Vl) (r : Cm.Res (List (List UInt8 × Nat) × List Cm.Node)) (w : World) (e : Ending) (w' : World) : Prop :=
  But (LX gm A) w w' ∧ ((∃ (ks : List (List UInt8 × Nat)) (a : List Cm.Node) (A' : Option Addr) (cp' : Nat) (kcs : Array Value) (Rn : Nat → Prop), r = .ok (ks, a) ∧ e = .returned (.tuple #[.agg kcs, .nilIface]) ∧ Tk gm Y A' cp' (acc ++ a.map .ok) w' ∧ RowOn A A' w ∧ (∀ b, Rn b → b < w'.heap.size ∧ ¬ LX gm A' b ∧ ¬ Y b) ∧ ItKey (w'.on Rn) ⟨nm, v, ks⟩ kcs.toList) ∨ (∃ (c : Nat) (q : Cm.Names) (b : Nat), r = .bad c q ∧ ¬ c = 0 ∧ e = .returned (.tuple #[.agg zeroKey, spellV b]) ∧ w.heap.size ≤ b ∧ SpellAt w' b (text q) c))
def Cm.keyN (nd : Nat → Cm.Names → Vl → Cm.Res (List Cm.Node)) (P : Cm.Names) (off : Nat) (nm : List UInt8) (v : Vl) : Cm.Res (List (List UInt8 × Nat) × List Cm.Node) :=
  if Sh.shape nm v = 0 then Cm.kidsN nd (Sh.single nm) (P ++ [nm]) off (Sh.kids nm v) else .bad (Sh.shape nm v) (P ++ [nm])
theorem Cm.keyN_next {nd : Nat → Cm.Names → Vl → Cm.Res (List Cm.Node)} {P : Cm.Names} {m : List Mem} {off j : Nat} {keys : List Cm.Key} {a : List Cm.Node} (hj : j < m.length) (h : Cm.memsN nd P off (m.take j) = .ok (keys, a)) :
    (∀ ks b, Cm.keyN nd P (off + a.length) (m[j]).1 (m[j]).2 = .ok (ks, b) → Cm.memsN nd P off (m.take (j + 1)) = .ok (keys ++ [⟨(m[j]).1, (m[j]).2, ks⟩], a ++ b)) ∧
      (∀ c p, Cm.keyN nd P (off + a.length) (m[j]).1 (m[j]).2 = .bad c p → Cm.memsN nd P off m = .bad c p) := by
  have hn := Cm.memsN_next hj h
  unfold Cm.keyN
  by_cases h0 : Sh.shape (m[j]).1 (m[j]).2 = 0
  · rw [if_pos h0]; exact hn.2 h0
  · rw [if_neg h0]
    refine ⟨fun ks b e => (by cases e), fun c p e => ?_⟩
    injection e with e1 e2
    subst e1 e2
    exact hn.1 h0

structure SchW (w : World) (gm : Nat) (Y : Nat → Prop) (A : Option Addr) (cs : Array Value) (A' : Option Addr) (cp' : Nat) (acc : List Cm.Wn) (P : Cm.Names) (r : List Cm.Node) (Ak : Option Addr) (ck : Nat) (keys : List Cm.Key) (W : World) : Prop where
  box : Blk W w.heap.size 28 cs
  maker : Tk gm (fun b => Y b ∨ Bk Ak b) A' cp' (acc ++ .wait (text P) false false Ak keys.length ck :: r.map .ok) W
  but : But (LX gm A) w W
  on : RowOn A A' w
  lt : gm < w.heap.size
  far : ¬ Bk A' w.heap.size
  keys : RowX ItKey 55 10 (fun b => LX gm A' b ∨ Y b) W (w.heap.size + 1) Ak ck keys
  yl : ∀ b, Y b → b < w.heap.size
section
variable {w : World} {gm : Nat} {Y : Nat → Prop} {A : Option Addr} {cs : Array Value} {A' A'' : Option Addr} {cp' cp'' : Nat} {acc : List Cm.Wn} {P : Cm.Names} {r : List Cm.Node} {Ak Ak' : Option Addr} {ck ck' : Nat} {keys : List Cm.Key} {W W' : World}
theorem SchW.keyAt (h : SchW w gm Y A cs A' cp' acc P r Ak ck keys W) {b : Nat} (e : Bk Ak b) : w.heap.size < b ∧ b < W.heap.size := by
  obtain ⟨ad, e, rfl⟩ := e
  obtain ⟨g, rfl, hg, hl⟩ := h.keys.le.2.2 ad e
  exact ⟨hg, hl⟩
theorem SchW.boxX (h : SchW w gm Y A cs A' cp' acc P r Ak ck keys W) : ¬ LX gm A' w.heap.size := by
  rintro (e | e)
  · have := h.lt; omega
  · exact h.far e
theorem SchW.keyX (h : SchW w gm Y A cs A' cp' acc P r Ak ck keys W) {b : Nat} (e : Bk Ak b) : ¬ (LX gm A' b ∨ Y b) := by
  have hk := h.keyAt e
  rintro ((k | k) | k)
  · have := h.lt; omega
  · exact h.maker.apart b k (.inr e)
  · have := h.yl b k; omega
theorem SchW.call (h : SchW w gm Y A cs A' cp' acc P r Ak ck keys W) (hb : But (LX gm A') W W') (hr : RowOn A' A'' W) {a : List Cm.Node} (hm : Tk gm (fun b => Y b ∨ Bk Ak b) A'' cp'' ((acc ++ .wait (text P) false false Ak keys.length ck :: r.map .ok) ++ a.map .ok) W') : SchW w gm Y A cs A'' cp'' acc P (r ++ a) Ak ck keys W' where
  box := hb.blk h.box h.boxX
  maker := by rw [List.map_append]; simpa using hm
  but := h.but.trans hb (fun b hb2 k => LX.back h.on b hb2 k)
  on := h.on.trans hr h.but.size
  lt := h.lt
  far := fun k => by
    rcases hr _ k with k | k
    · exact h.far k
    · have := h.box.lt; omega
  keys := RowX.but (It := ItKey) (fun h => ItKey.mono h) h.keys (hb.sub (fun b _ k => .inl k)) (fun ad e => h.keyX ⟨ad, e, rfl⟩) (fun b hb2 k => k.imp (LX.back hr b hb2) id)
  yl := h.yl
theorem SchW.next (h : SchW w gm Y A cs A' cp' acc P r Ak ck keys W) (hb : Below W.heap.size W W') : SchW w gm Y A cs A' cp' acc P r Ak ck keys W' := by
  have := h.call (a := []) (But.of hb) (RowOn.refl _ _) (by simpa using h.maker.on hb)
  rwa [List.append_nil] at this
theorem wait_at (acc : List Cm.Wn) (x : Cm.Wn) (l : List Cm.Wn) : (acc ++ x :: l)[acc.length]? = some x := by
  rw [List.getElem?_append_right (Nat.le_refl _), Nat.sub_self]; rfl
theorem wait_set (acc : List Cm.Wn) (x x' : Cm.Wn) (l : List Cm.Wn) : (acc ++ x :: l).set acc.length x' = acc ++ x' :: l := by
  rw [List.set_append_right _ _ (Nat.le_refl _), Nat.sub_self]; rfl
theorem SchW.start {cp : Nat} (h0 : Tk gm Y A cp acc w) (hb : But (LX gm A) w W) (hbox : Blk W w.heap.size 28 cs) (hm : Tk gm Y A' cp' (acc ++ [.wait (text P) false false none 0 0]) W) (hr : RowOn A A' w) (hfar : ¬ Bk A' w.heap.size) : SchW w gm Y A cs A' cp' acc P [] none 0 [] W where
  box := hbox
  maker := hm.but (Y0 := fun _ => False) (But.refl _ _) (fun _ _ k => k.elim) (fun b _ k => by rcases k with k | ⟨ad, e, _⟩; exact k; cases e) (fun b k => by
    rcases k with k | ⟨ad, e, _⟩
    · exact hm.yl b k
    · cases e)
  but := hb
  on := hr
  lt := h0.lt
  far := hfar
  keys := RowX.nil _ _
  yl := h0.yl
theorem SchW.push (h : SchW w gm Y A cs A' cp' acc P r Ak ck keys W) {K : Cm.Key} {kcs : List Value} {Rn : Nat → Prop} (hit : ItKey (W.on Rn) K kcs) (hRn : ∀ b, Rn b → b < W.heap.size ∧ ¬ LX gm A' b ∧ ¬ (Y b ∨ Bk Ak b)) (h1 : ∀ u ∈ kcs, u.oneCell' = true) (h10 : kcs.length = 10) {i : Nat} (hi : keys.length = i) :
    ∃ (gr : Nat) (flat : List Value), A' = some ⟨gr, 0, none⟩ ∧ gm < gr ∧ gr < W.heap.size ∧ W.cell? ⟨gr, acc.length * 4 + 3, none⟩ = some (.slice Ak i ck) ∧ W.frozen? ⟨gr, acc.length * 4 + 3, none⟩ = false ∧ ¬ Bk Ak gr ∧ W.ownsRow (w.heap.size + 1) 55 10 (.slice Ak i ck) i flat ∧ ∀ (w6 : World) (g cap : Nat), w6.ownsRow (w.heap.size + 1) 55 10 (.slice (some ⟨g, 0, none⟩) (i + 1) cap) (i + 1) (flat ++ kcs) → W.grownBy w6 (Value.slice Ak i ck).ownBlock → ((Value.slice Ak i ck).ownBlock = some g ∨ g = W.heap.size) →
      w6.frozen? ⟨gr, acc.length * 4 + 3, none⟩ = false ∧ w6.cell? ⟨gr, acc.length * 4 + 3, none⟩ = some (.slice Ak i ck) ∧ SchW w gm Y A cs A' cp' acc P r (some ⟨g, 0, none⟩) cap (keys ++ [K]) (w6.setCell ⟨gr, acc.length * 4 + 3, none⟩ (.slice (some ⟨g, 0, none⟩) (i + 1) cap)) := by
  obtain ⟨flat, hown, hpush⟩ := RowX.push (It := ItKey) (fun h => ItKey.mono h) hi h.keys
  obtain ⟨gr, hA, hcell, hfr, hgr, hgl, _⟩ := h.maker.setC (x' := .wait (text P) false false Ak 0 0) (wait_at acc _ _) (j := 3) (u := .slice Ak 0 0) (by omega) (fun c => rfl) rfl
  have hkr : ¬ Bk Ak gr := fun k => h.maker.apart gr ⟨_, hA, rfl⟩ (.inr k)
  rw [hi] at hcell
  refine ⟨gr, flat, hA, hgr, hgl, hcell 3 _ rfl, hfr, hkr, hown, fun w6 g cap h6 hg hat => ?_⟩
  have hrow := hpush hit (fun b hb => ⟨(hRn b hb).1, fun k => k.elim (hRn b hb).2.1 (fun q => (hRn b hb).2.2 (.inl q)), fun ad e e2 => (hRn b hb).2.2 (.inr ⟨ad, e, e2⟩)⟩) h1 h10 h6 hg hat
  have hle := RowX.le h.keys
  have hkb : ∀ q, (Value.slice Ak i ck).ownBlock = some q → Bk Ak q := fun q hq => by
    cases Ak with
    | none => cases hq
    | some ad =>
      obtain ⟨g2, rfl, _⟩ := hle.2.2 ad rfl
      exact ⟨_, rfl, by simpa [Value.ownBlock] using hq.symm⟩
  have hb6 : But (Bk Ak) W w6 := (But.refl (Bk Ak) W).grown hg (fun q hq => .inr (hkb q hq))
  have hro : RowOn Ak (some ⟨g, 0, none⟩) W := fun b k => by
    obtain ⟨ad, e, rfl⟩ := k
    injection e with e; subst e
    rcases hat with k | k
    · exact .inl (hkb _ k)
    · exact .inr (Nat.le_of_eq k.symm)
  have hm6 : Tk gm (fun b => Y b ∨ Bk (some (⟨g, 0, none⟩ : Addr)) b) A' cp' (acc ++ .wait (text P) false false Ak keys.length ck :: r.map .ok) w6 := h.maker.but hb6 (fun b _ k => .inr k) (fun b hb2 k => k.imp id (fun q => (hro b q).elim id (fun q => by omega))) (fun b k => by
    rcases k with k | k
    · exact Nat.lt_of_lt_of_le (h.maker.yl b (.inl k)) hb6.size
    · obtain ⟨ad, e, rfl⟩ := k
      obtain ⟨g2, rfl, _, hl⟩ := hrow.le.2.2 ad e
      exact hl)
  obtain ⟨gr2, hA2, hcell2, hfr2, hgr2, hgl2, hset⟩ := hm6.setC (x' := .wait (text P) false false (some ⟨g, 0, none⟩) (keys ++ [K]).length cap) (wait_at acc _ _) (j := 3) (u := .slice (some ⟨g, 0, none⟩) (i + 1) cap) (by omega) (fun c => by rw [List.length_append, hi]; rfl) rfl
  obtain rfl : gr = gr2 := by rw [hA] at hA2; injection hA2 with e; injection e
  rw [wait_set] at hset
  rw [hi] at hcell2
  have hbX : ¬ gr = w.heap.size := fun e => h.far (e ▸ ⟨_, hA, rfl⟩)
  refine ⟨hfr2, hcell2 3 _ rfl, ?_, hset, ?_, h.on, h.lt, h.far, ?_, h.yl⟩
  · exact (Below.heap_setCell w6 ⟨gr, acc.length * 4 + 3, none⟩ _ w.heap.size (fun e => hbX e.symm)).trans (hb6.blk h.box (fun k => by have := (h.keyAt k).1; omega))
  · refine But.set (h.but.trans hb6 (fun b hb2 k => by have := (h.keyAt k).1; omega)) ?_ _
    rcases h.on gr ⟨_, hA, rfl⟩ with k | k
    · exact .inr (.inr k)
    · exact .inl k
  · refine RowX.but (It := ItKey) (fun h => ItKey.mono h) (X := fun b => LX gm A' b ∨ Y b) hrow ((But.refl _ w6).set (p := ⟨gr, acc.length * 4 + 3, none⟩) (.inr (.inl (.inr ⟨_, hA, rfl⟩))) _) (fun ad e k => ?_) (fun b _ k => k)
    have hb : Bk (some (⟨g, 0, none⟩ : Addr)) ad.block := ⟨ad, e, rfl⟩
    obtain ⟨g2, rfl, hg1, hg2⟩ := hrow.le.2.2 ad e
    rcases k with (k | k) | k
    · have := h.lt; simp only at k; omega
    · exact hm6.apart _ k (.inr hb)
    · have := h.yl _ k; simp only at this; omega
theorem SchW.fin (h : SchW w gm Y A cs A' cp' acc P r Ak ck keys W) : Tk gm Y A' cp' (acc ++ ((⟨P, false, false, keys⟩ : Cm.Node) :: r).map .ok) W := by
  obtain ⟨Rn, hRn, hsl⟩ := RowX.slKey h.keys (fun ad e => h.keyX ⟨ad, e, rfl⟩)
  have hl := RowX.le h.keys
  have := h.maker.done (Y' := Y) (fun b k => .inl k) (wait_at acc _ _) hsl hl.1 hl.2.1 (fun b hb => ⟨(hRn b hb).1, fun k => (hRn b hb).2 (k.elim (fun q => .inl (.inl q)) .inr), fun k => (hRn b hb).2 (.inl (.inr k))⟩)
  rwa [wait_set] at this
end

def Yk (w : World) (Y : Nat → Prop) (gk : Nat) (Ad : Option Addr) (b : Nat) : Prop := Y b ∨ b = w.heap.size + 1 ∨ b = gk ∨ Bk Ad b
structure KwW (w : World) (gm : Nat) (Y : Nat → Prop) (A A' : Option Addr) (cp' : Nat) (acc : List Cm.Wn) (r : List Cm.Node) (cs : Array Value) (gk : Nat) (kc : List Value) (Ad : Option Addr) (cd : Nat) (ks : List (List UInt8 × Nat)) (W : World) : Prop where
  box : Blk W w.heap.size 88 cs
  res : Blk W (w.heap.size + 1) 55 zeroKey
  far : ∀ b, Bk A' b → b ≠ w.heap.size ∧ b ≠ w.heap.size + 1
  maker : Tk gm (Yk w Y gk Ad) A' cp' (acc ++ r.map .ok) W
  but : But (LX gm A) w W
  on : RowOn A A' w
  lt : gm < w.heap.size
  key : Blk W gk 55 (kc ++ [Value.slice Ad ks.length cd]).toArray
  kids : RowX ItKid 57 2 (LX gm A') W (gk + 1) Ad cd ks
  gt : w.heap.size + 2 ≤ gk
  yl : ∀ b, Y b → b < w.heap.size
section
variable {w : World} {gm : Nat} {Y : Nat → Prop} {A : Option Addr} {A' A'' : Option Addr} {cp' cp'' : Nat} {acc : List Cm.Wn} {r : List Cm.Node} {cs : Array Value} {gk : Nat} {kc : List Value} {Ad Ad' : Option Addr} {cd cd' : Nat} {ks ks' : List (List UInt8 × Nat)} {W W' : World}
theorem KwW.keyX (h : KwW w gm Y A A' cp' acc r cs gk kc Ad cd ks W) : ¬ LX gm A' gk := by
  rintro (k | k)
  · have := h.gt; have := h.lt; omega
  · exact h.maker.apart gk k (.inr (.inr (.inl rfl)))
theorem KwW.kidAt (h : KwW w gm Y A A' cp' acc r cs gk kc Ad cd ks W) {b : Nat} (e : Bk Ad b) : gk < b ∧ b < W.heap.size ∧ ¬ LX gm A' b := by
  have hb : gk < b ∧ b < W.heap.size := by
    obtain ⟨ad, e, rfl⟩ := e
    obtain ⟨g, rfl, hg, hl⟩ := h.kids.le.2.2 ad e
    exact ⟨hg, hl⟩
  refine ⟨hb.1, hb.2, ?_⟩
  rintro (k | k)
  · have := h.gt; have := h.lt; omega
  · exact h.maker.apart b k (.inr (.inr (.inr e)))
theorem KwW.boxX (h : KwW w gm Y A A' cp' acc r cs gk kc Ad cd ks W) : ¬ LX gm A' w.heap.size ∧ ¬ LX gm A' (w.heap.size + 1) := by
  refine ⟨?_, ?_⟩
  · rintro (k | k)
    · have := h.lt; omega
    · exact (h.far _ k).1 rfl
  · rintro (k | k)
    · have := h.lt; omega
    · exact (h.far _ k).2 rfl
theorem KwW.call (h : KwW w gm Y A A' cp' acc r cs gk kc Ad cd ks W) (hb : But (LX gm A') W W') (hr : RowOn A' A'' W) {a : List Cm.Node} (hm : Tk gm (Yk w Y gk Ad) A'' cp'' ((acc ++ r.map .ok) ++ a.map .ok) W') : KwW w gm Y A A'' cp'' acc (r ++ a) cs gk kc Ad cd ks W' where
  box := hb.blk h.box h.boxX.1
  res := hb.blk h.res h.boxX.2
  far := fun b k => by
    rcases hr b k with k | k
    · exact h.far b k
    · have := h.res.lt; omega
  maker := by rw [List.map_append, ← List.append_assoc]; exact hm
  but := h.but.trans hb (fun b hb2 k => LX.back h.on b hb2 k)
  on := h.on.trans hr h.but.size
  lt := h.lt
  key := hb.blk h.key h.keyX
  kids := RowX.but (It := ItKid) (fun h => ItKid.mono h) h.kids hb (fun ad e => (h.kidAt ⟨ad, e, rfl⟩).2.2) (LX.back hr)
  gt := h.gt
  yl := h.yl
theorem KwW.next (h : KwW w gm Y A A' cp' acc r cs gk kc Ad cd ks W) (hb : Below W.heap.size W W') : KwW w gm Y A A' cp' acc r cs gk kc Ad cd ks W' := by
  have := h.call (a := []) (But.of hb) (RowOn.refl _ _) (by simpa using h.maker.on hb)
  rwa [List.append_nil] at this
theorem KwW.start {cp : Nat} (h : Tk gm Y A cp acc w) {W0 : World} (h0 : Below w.heap.size w W0) (hb : Below W0.heap.size W0 W) (hbox : Blk W0 w.heap.size 88 cs) (hres : Blk W0 (w.heap.size + 1) 55 zeroKey) (hk : Blk W W0.heap.size 55 (kc ++ [Value.slice none 0 0]).toArray) : KwW w gm Y A A cp acc [] cs W0.heap.size kc none 0 [] W where
  box := hbox.on hb
  res := hres.on hb
  far := fun b k => by have := (h.rowAt k).2; omega
  maker := by
    have hb2 : Below w.heap.size w W := h0.trans (hb.mono h0.size)
    rw [show acc ++ ([] : List Cm.Node).map Cm.Wn.ok = acc by simp]
    refine h.but (Y0 := fun _ => False) (But.of hb2) (fun _ _ k => k.elim) (fun b hb3 k => ?_) (fun b k => ?_)
    · have := hres.lt
      rcases k with k | k | k | ⟨ad, e, _⟩
      · exact k
      · omega
      · omega
      · cases e
    · rcases k with k | k | k | ⟨ad, e, _⟩
      · exact Nat.lt_of_lt_of_le (h.yl b k) hb2.size
      · rw [k]; exact (hres.on hb).lt
      · rw [k]; exact hk.lt
      · cases e
  but := But.of (h0.trans (hb.mono h0.size))
  on := RowOn.refl _ _
  lt := h.lt
  key := hk
  kids := RowX.nil _ _
  gt := hres.lt
  yl := h.yl
theorem KwW.grow (h : KwW w gm Y A A' cp' acc r cs gk kc Ad cd ks W) (h9 : kc.length = 9) {w6 : World} (hb : But (Bk Ad) W w6) (hr : RowOn Ad Ad' W) (hrow : RowX ItKid 57 2 (LX gm A') w6 (gk + 1) Ad' cd' ks') :
    KwW w gm Y A A' cp' acc r cs gk kc Ad' cd' ks' (w6.setCell ⟨gk, 9, none⟩ (.slice Ad' ks'.length cd')) := by
  have hb2 : But (fun b => b = gk ∨ Bk Ad b) W (w6.setCell ⟨gk, 9, none⟩ (.slice Ad' ks'.length cd')) := (hb.sub (fun b _ k => .inr k)).set (p := ⟨gk, 9, none⟩) (.inr (.inl rfl)) _
  have hgk : ¬ Bk Ad gk := fun k => by have := (h.kidAt k).1; omega
  have h6 := Blk.setL (hb.blk h.key hgk) 9 (.slice Ad' ks'.length cd')
  have hkl := h.key.lt
  have hgt := h.gt
  have hnb : ∀ b, b < gk → ¬ (b = gk ∨ Bk Ad b) := fun b hb3 k => by
    rcases k with k | k
    · omega
    · have := (h.kidAt k).1; omega
  have hap : ∀ b, Bk Ad' b → gk < b ∧ b < w6.heap.size ∧ ¬ LX gm A' b := fun b e => by
    have h1 : gk < b ∧ b < w6.heap.size := by
      obtain ⟨ad, e, rfl⟩ := e
      obtain ⟨g, rfl, hg, hl⟩ := hrow.le.2.2 ad e
      exact ⟨hg, hl⟩
    refine ⟨h1.1, h1.2, fun k => ?_⟩
    rcases hr b e with q | q
    · exact (h.kidAt q).2.2 k
    · rcases k with k | k
      · have := h.lt; have := h.gt; omega
      · have := (h.maker.rowAt k).2; omega
  refine ⟨hb2.blk h.box (hnb _ (by omega)), hb2.blk h.res (hnb _ (by omega)), h.far, h.maker.but hb2 (fun b _ k => .inr (.inr k)) (fun b hb3 k => ?_) (fun b k => ?_), ?_, h.on, h.lt, ?_, ?_, h.gt, h.yl⟩
  · rcases k with k | k | k | k
    · exact .inl k
    · exact .inr (.inl k)
    · exact .inr (.inr (.inl k))
    · rcases hr b k with q | q
      · exact .inr (.inr (.inr q))
      · omega
  · have hs := hb2.size
    have hrl := h.res.lt
    rcases k with k | k | k | k
    · exact Nat.lt_of_lt_of_le (h.maker.yl b (.inl k)) hs
    · omega
    · omega
    · simpa [World.setCell] using (hap b k).2.1
  · exact h.but.trans hb2 (fun b hb3 k => by
      have := h.gt
      rcases k with k | k
      · omega
      · have := (h.kidAt k).1; omega)
  · rw [List.set_append_right _ _ (by omega), h9] at h6
    exact h6
  · refine RowX.but (It := ItKid) (fun h => ItKid.mono h) (X' := LX gm A') (X := fun b => LX gm A' b ∨ b = gk) ?_ ((But.refl _ w6).set (p := ⟨gk, 9, none⟩) (.inr (.inr rfl)) _) (fun ad e k => ?_) (fun b _ k => .inl k)
    · exact hrow.kidAny _
    · have := hap _ ⟨ad, e, rfl⟩
      rcases k with k | k
      · exact this.2.2 k
      · omega
theorem KwW.done (h : KwW w gm Y A A' cp' acc r cs gk kc Ad cd ks W) (hb : But (fun b => b = w.heap.size + 1) W W') {S : Nat → Prop} (hS : ∀ b, S b → b < w.heap.size ∧ ¬ LX gm A b ∧ ¬ Y b) {nm : List UInt8} {v : Vl} {q : Array Value} (hv : v.In (w.on S) (.agg q)) (hkc : kc = .string ⟨nm.toArray⟩ :: q.toList) {R : Cm.Res (List (List UInt8 × Nat) × List Cm.Node)} (hR : R = .ok (ks, r)) :
    KeyP gm Y A acc nm v R w (.returned (.tuple #[.agg (kc ++ [Value.slice Ad ks.length cd]).toArray, .nilIface])) W' := by
  have hl := RowX.le h.kids
  have hbw : But (LX gm A) w W' := h.but.trans hb (fun b hb2 k => by omega)
  refine ⟨hbw, .inl ⟨ks, r, A', cp', _, fun b => S b ∨ Bk Ad b, hR, rfl, h.maker.but hb (fun b _ k => .inr (.inl k)) (fun b _ k => .inl k) (fun b k => Nat.lt_of_lt_of_le (h.yl b k) hbw.size), h.on, ?_, q, Ad, cd, by rw [hkc]; rfl, ?_, fun i p hi => ?_, hl.1, hl.2.1⟩⟩
  · rintro b (k | k)
    · obtain ⟨h1, h2, h3⟩ := hS b k
      exact ⟨Nat.lt_of_lt_of_le h1 hbw.size, fun q => h2 (LX.back h.on b h1 q), h3⟩
    · obtain ⟨h1, h2, h3⟩ := h.kidAt k
      exact ⟨Nat.lt_of_lt_of_le h2 hb.size, h3, fun q => by have := h.yl b q; have := h.gt; omega⟩
  · exact In.keep (hbw.on (fun b k => .inl k) (fun b k _ => (hS b k).2.1)) _ _ hv
  · obtain ⟨R, g, cs, hA, hg1, _, rfl, h2⟩ := RowX.items (It := ItKid) h.kids hi
    have hgt := h.gt
    have hbg : Bk Ad g := ⟨_, hA, rfl⟩
    have hgl := (h.kidAt hbg).2.1
    have hcell : ∀ o, W'.cell? ⟨g, o, none⟩ = W.cell? ⟨g, o, none⟩ := fun o => World.cell?_of_block (hb.block g hgl (by show ¬ g = w.heap.size + 1; omega))
    have e0 := h2 0 _ rfl
    have e1 := h2 1 _ rfl
    refine ⟨g, 0, hA, ?_, ?_⟩
    · rw [Nat.zero_add]; exact on_some.2 ⟨.inr hbg, (hcell _).trans e0⟩
    · rw [Nat.zero_add]; exact on_some.2 ⟨.inr hbg, (hcell _).trans e1⟩
end

end Go.Proofs.YtlhinefalkfjaaaGreatDoor

