/- Mr: Qk Ql Qm Qn Ra Rb, in one text. -/
import Derived.Test.YtccacjkogdmleaaDoorMq
import Derived.Deep.Cut
/- The walks of the document's Reader, ninth part: object's loop. (By gen_object.py.) -/
namespace Go.Proofs.YtccacjkogdmleaaDoor
open Go.RowKit Js

/-- A key that is there twice. -/
def twiceR {α : Type} (b : Bool) (l : Nat) : Ps.R α → Ps.R α
  | .ok v u => if b = true then .bad 4 l else .ok v u
  | .bad c k => .bad c k
/-- What a member comes to, up to its value. -/
def memR (f d : Nat) (t : List UInt8) (b : Bool) : Ps.R Vl := R_then (R_then (twiceR b (Ps.skip t).length (Ps.qtext (Ps.skip t))).trail (Ps.lit [58])) (Ps.value f d)

theorem mems_eq (f d : Nat) (t : List UInt8) (acc : List Js.Mem) (key : List UInt8) (hk : ∀ k u, Ps.qtext (Ps.skip t) = .ok k u → key = k) : Ps.mems (f + 1) d t acc = match memR f d t (Js.find acc key).isSome with
    | .bad c l => .bad c l
    | .ok v t2 => if t2.head? = some 44 then Ps.mems f d t2.tail (Ps.ins acc key v) else (Ps.lit [125] t2).map (fun _ => Ps.mkO (Ps.ins acc key v)) := by
  rw [Ps.mems]
  unfold memR
  cases hq : Ps.qtext (Ps.skip t) with
  | bad c l => rfl
  | ok k u =>
    obtain rfl := hk k u hq
    simp only [twiceR]
    by_cases hf : (Js.find acc key).isSome = true
    · rw [if_pos hf, if_pos hf]; rfl
    · rw [if_neg hf, if_neg hf]
      simp only [Ps.R.trail, R_then]
      rw [lit1]
      cases hs : Ps.skip u with
      | nil => rfl
      | cons c t4 =>
        simp only [List.head?_cons, List.tail_cons, Option.some.injEq]
        by_cases hc : c = 58
        · rw [if_pos hc, if_pos hc]
          simp only
          cases Ps.value f d t4 with
          | bad c l => rfl
          | ok v t2 =>
            cases t2 with
            | nil => rfl
            | cons c u =>
              simp only [List.head?_cons, List.tail_cons, Option.some.injEq]
              by_cases h : c = 44
              · rw [if_pos h, if_pos h]
              · rw [if_neg h, if_neg h, lit1]
                by_cases h2 : c = 125
                · subst h2; rfl
                · rw [if_neg h2, if_neg (by simpa using h2)]; rfl
        · rw [if_neg hc, if_neg hc]

/-- Where a member's value begins there is less left. -/
theorem memR_len (t : List UInt8) (b : Bool) : ∀ v u, R_then (twiceR b (Ps.skip t).length (Ps.qtext (Ps.skip t))).trail (Ps.lit [58]) = .ok v u → u.length + 2 ≤ t.length := by
  intro v u h
  cases hq : Ps.qtext (Ps.skip t) with
  | bad c l => rw [hq] at h; cases h
  | ok k t2 =>
    rw [hq] at h
    simp only [twiceR] at h
    split at h
    · cases h
    · have h1 := Ps.qtext_ok hq
      have h2 := congrArg List.length (Ps.lit_ok (show Ps.lit [58] (Ps.skip t2) = .ok v u from h))
      have h3 := Ps.skip_len t2
      have h4 := Ps.skip_len t
      simp at h2
      omega

theorem memR_ok_len (f d : Nat) (t : List UInt8) (b : Bool) (hd : d ≤ 32) {v : Vl} {t2 : List UInt8} (h : memR f d t b = .ok v t2) : t2.length + 3 ≤ t.length := by
  unfold memR at h
  cases hq : R_then (twiceR b (Ps.skip t).length (Ps.qtext (Ps.skip t))).trail (Ps.lit [58]) with
  | bad c l => rw [hq] at h; cases h
  | ok x u =>
    have h1 := memR_len t b x u hq
    rw [hq] at h
    have h2 := (Ps.told f).1 d u hd
    rw [show Ps.value f d u = .ok v t2 from h] at h2
    have := h2.2
    have := size_pos v
    omega

theorem twice_no {α : Type} (l : Nat) (r : Ps.R α) : twiceR false l r = r := by cases r <;> rfl

theorem not_less {m : List Js.Mem} {key : List UInt8} {n : Nat} {p : Js.Mem} (hn : n = (m.takeWhile (Ps.less key)).length) (hp : m[n]? = some p) : ¬ Lib.compareBytes p.1 key = -1 := by
  subst hn
  induction m with
  | nil => simp at hp
  | cons q m ih =>
    by_cases hq : Ps.less key q = true
    · rw [List.takeWhile_cons_of_pos hq] at hp
      exact ih (by simpa using hp)
    · rw [List.takeWhile_cons_of_neg hq] at hp
      simp at hp
      subst hp
      simpa [Ps.less] using hq

theorem grown_new {w w' : World} {o : Obj} {n c : Nat} (hg : ((w.alloc o).drew).grownBy w' (Value.slice (some ⟨w.heap.size, 0, none⟩) n c).ownBlock) : Below w.heap.size w w' :=
  (((Below.refl _ _).alloc (Nat.le_refl _) o).drew).grown hg (by simp) (fun k hk => by cases hk; exact Nat.le_refl _)
theorem grown_new' {w w' : World} {o : Obj} {n c : Nat} (hg : (w.alloc o).grownBy w' (Value.slice (some ⟨w.heap.size, 0, none⟩) n c).ownBlock) : Below w.heap.size w w' :=
  ((Below.refl _ _).alloc (Nat.le_refl _) o).grown hg (by simp) (fun k hk => by cases hk; exact Nat.le_refl _)
/-- Where what was appended to lies. -/
theorem new_of {A A' : Option Addr} {n c n' c' b h : Nat} (hA : ∀ ad, A = some ad → b ≤ ad.block) (hh : b ≤ h) (hat : (Value.slice A' n' c').ownBlock = (Value.slice A n c).ownBlock ∨ (Value.slice A' n' c').ownBlock = some h) : ∀ ad, A' = some ad → b ≤ ad.block := by
  rintro ad rfl
  rcases hat with e | e
  · cases A with
    | none => cases e
    | some x =>
      have : ad.block = x.block := by simpa [Value.ownBlock] using e
      rw [this]; exact hA x rfl
  · have : ad.block = h := by simpa [Value.ownBlock] using e
    omega
theorem own_new {A : Option Addr} {n c b k : Nat} (hA : ∀ ad, A = some ad → b ≤ ad.block) (hk : (Value.slice A n c).ownBlock = some k) : b ≤ k := by
  cases A with
  | none => cases hk
  | some x => have : x.block = k := by simpa [Value.ownBlock] using hk
              rw [← this]; exact hA x rfl
theorem src_take {w w' : World} {B : Nat} {e : TypeId} {A : Option Addr} {n cp k : Nat} {flat : List Value} (h : w.ownsRow B e 9 (.slice A n cp) n flat) (hk : k ≤ n) (hh : ∀ b, b < w.heap.size → w'.heap[b]? = w.heap[b]?) : Src w' A k cp (flat.take (k * 9)) := by
  have hl := own_le h
  have hfl := h.1
  cases A with
  | none =>
    obtain ⟨rfl, rfl⟩ := hl.2.2.1 rfl
    obtain rfl : k = 0 := by omega
    exact .inl ⟨rfl, rfl, rfl, by simp⟩
  | some ad =>
    obtain ⟨g, rfl, hg1, hg2⟩ := hl.2.2.2 ad rfl
    refine .inr ⟨_, rfl, fun j u hu => ?_⟩
    rw [List.getElem?_take] at hu
    split at hu
    · rw [Addr.add_mid, Nat.zero_add, World.cell?_of_block (w := w) (hh g hg2)]
      exact own_cell h _ _ hu
    · cases hu
theorem src_all {w w' : World} {B : Nat} {e : TypeId} {size : Nat} {A : Option Addr} {n cp : Nat} {flat : List Value} (h : w.ownsRow B e size (.slice A n cp) n flat) (hh : ∀ b, b < w.heap.size → w'.heap[b]? = w.heap[b]?) : Src w' A n cp flat := by
  have hl := own_le h
  cases A with
  | none =>
    obtain ⟨rfl, rfl⟩ := hl.2.2.1 rfl
    exact .inl ⟨rfl, rfl, rfl, List.eq_nil_of_length_eq_zero (by have := h.1; omega)⟩
  | some ad =>
    obtain ⟨g, rfl, hg1, hg2⟩ := hl.2.2.2 ad rfl
    refine .inr ⟨_, rfl, fun j u hu => ?_⟩
    rw [Addr.add_mid, Nat.zero_add, World.cell?_of_block (w := w) (hh g hg2)]
    exact own_cell h _ _ hu

/-- The end of a row of members, as it is cut off. -/
theorem src_drop {w w' : World} {B : Nat} {e : TypeId} {A AJ : Option Addr} {n cp k : Nat} {flat : List Value} (h : w.ownsRow B e 9 (.slice A n cp) n flat) (hk : k ≤ n) (hA : (if cp = k then A else Option.map (fun x => x.add (k * 9)) A) = AJ) (hh : ∀ b, b < w.heap.size → w'.heap[b]? = w.heap[b]?) : Src w' AJ (n - k) (cp - k) (flat.drop (k * 9)) := by
  have hl := own_le h
  have hfl := h.1
  cases A with
  | none =>
    obtain ⟨rfl, rfl⟩ := hl.2.2.1 rfl
    obtain rfl : k = 0 := by omega
    rw [if_pos rfl] at hA
    subst hA
    exact .inl ⟨rfl, rfl, rfl, List.eq_nil_of_length_eq_zero (by rw [List.length_drop, hfl])⟩
  | some ad =>
    obtain ⟨g, rfl, hg1, hg2⟩ := hl.2.2.2 ad rfl
    by_cases hc : cp = k
    · rw [if_pos hc] at hA
      subst hA
      refine .inr ⟨_, rfl, fun j u hu => ?_⟩
      have := (List.getElem?_eq_some_iff.1 hu).1
      rw [List.length_drop, hfl] at this
      have := hl.1
      omega
    · rw [if_neg hc] at hA
      subst hA
      refine .inr ⟨_, rfl, fun j u hu => ?_⟩
      rw [List.getElem?_drop] at hu
      have e1 : ((⟨g, 0, none⟩ : Addr).add (k * 9)).add j = ⟨g, k * 9 + j, none⟩ := by rw [Addr.add_mid, Addr.add_mid]; simp
      rw [e1, World.cell?_of_block (w := w) (hh g hg2)]
      exact own_cell h _ _ hu

/-- A member's value, and the members, while a list is made of them. -/
def ObjAt (vb xb : Nat) (mv c0 c1 c2 c3 c4 c5 c6 c7 : Value) (w w' : World) : Prop :=
  (w'.cell? ⟨xb, 0, none⟩ = some c0 ∧ w'.cell? ⟨xb, 1, none⟩ = some c1 ∧ w'.cell? ⟨xb, 2, none⟩ = some c2 ∧ w'.cell? ⟨xb, 3, none⟩ = some c3 ∧ w'.cell? ⟨xb, 4, none⟩ = some c4 ∧ w'.cell? ⟨xb, 5, none⟩ = some c5 ∧ w'.cell? ⟨xb, 6, none⟩ = some c6 ∧ w'.cell? ⟨xb, 7, none⟩ = some c7) ∧
    w'.cell? ⟨vb, 7, none⟩ = some mv ∧ Below w.heap.size w w'
theorem ObjAt.on {vb xb : Nat} {mv c0 c1 c2 c3 c4 c5 c6 c7 : Value} {w W w1 : World} (h : ObjAt vb xb mv c0 c1 c2 c3 c4 c5 c6 c7 w W) (hb : Below W.heap.size W w1) : ObjAt vb xb mv c0 c1 c2 c3 c4 c5 c6 c7 w w1 := by
  obtain ⟨⟨h0, h1, h2, h3, h4, h5, h6, h7⟩, h8, h9⟩ := h
  have hc : ∀ b i v, W.cell? ⟨b, i, none⟩ = some v → w1.cell? ⟨b, i, none⟩ = some v := fun b i v h => (hb.cell (p := ⟨b, i, none⟩) (World.block_lt_of_cell? W _ h)).trans h
  exact ⟨⟨hc _ _ _ h0, hc _ _ _ h1, hc _ _ _ h2, hc _ _ _ h3, hc _ _ _ h4, hc _ _ _ h5, hc _ _ _ h6, hc _ _ _ h7⟩, hc _ _ _ h8, h9.trans (hb.mono h9.size)⟩
theorem ObjAt.drew {vb xb : Nat} {mv c0 c1 c2 c3 c4 c5 c6 c7 : Value} {w W : World} (h : ObjAt vb xb mv c0 c1 c2 c3 c4 c5 c6 c7 w W) : ObjAt vb xb mv c0 c1 c2 c3 c4 c5 c6 c7 w W.drew := ⟨h.1, h.2.1, h.2.2.drew⟩
theorem ObjAt.alloc {vb xb : Nat} {mv c0 c1 c2 c3 c4 c5 c6 c7 : Value} {w W : World} (h : ObjAt vb xb mv c0 c1 c2 c3 c4 c5 c6 c7 w W) (o : Obj) : ObjAt vb xb mv c0 c1 c2 c3 c4 c5 c6 c7 w (W.alloc o) := h.on ((Below.refl _ _).alloc (Nat.le_refl _) _)

end Go.Proofs.YtccacjkogdmleaaDoor

/- The walks of the document's Reader, tenth part: value, by its first byte. -/
namespace Go.Proofs.YtccacjkogdmleaaDoor
open Go.RowKit Js
theorem trail_eq {r : Ps.R Vl} {v : Vl} (h : ∀ v0 u, r = .ok v0 u → v = v0) : ∀ v0 u, r.trail = .ok v0 u → v = v0 := by
  cases r with
  | ok x t => intro v0 u e; injection e with e1 e2; rw [← e1]; exact h x t rfl
  | bad c l => intro v0 u e; cases e

/-- What a value begins with. -/
theorem value_head (f d : Nat) (t : List UInt8) : Ps.value (f + 1) d t = Ps.R.trail (match Ps.skip t with
    | [] => .bad 1 0
    | c :: u => if c = 123 then Ps.obj f d u else if c = 91 then Ps.arr f d u else Ps.single c u) := by
  rw [Ps.value]
  cases Ps.skip t <;> rfl

end Go.Proofs.YtccacjkogdmleaaDoor

/- The walks of the document's Reader, eleventh part: value, but for numbers. (By gen_value.py.) -/
namespace Go.Proofs.YtccacjkogdmleaaDoor
open Go.RowKit Js

theorem leaf_in (c : Cl) (k : Int) (b : Bool) (n : Nm.Num) (s : List UInt8) : (Vl.mk k b n s [] []).In c (vlV k b n.neg n.digits n.exp s (.slice none 0 0) (.slice none 0 0)) := by
  simp only [Vl.In]
  exact ⟨none, 0, none, 0, rfl, Nat.le_refl _, by simp [maxLen], Nat.le_refl _, by simp [maxLen], fun h => absurd h (by simp), fun h => absurd h (by simp)⟩
theorem Sole.set8 {rb : Nat} {w w' : World} (h : Sole rb w w') {g : Nat} (hg : w.heap.size ≤ g) (v0 v1 v2 v3 v4 v5 v6 v7 : Value) : Sole rb w (Go.Proofs.YtccacjkogdmleaaDoor.set8 w' g v0 v1 v2 v3 v4 v5 v6 v7) :=
  (((((((h.setNew hg 0 v0).setNew hg 1 v1).setNew hg 2 v2).setNew hg 3 v3).setNew hg 4 v4).setNew hg 5 v5).setNew hg 6 v6).setNew hg 7 v7
theorem in_set8 {w : World} {B g : Nat} {v : Vl} {x : Value} (h : v.In (w.on (B ≤ ·)) x) (hg : g < B) {B' : Nat} (hB : B' ≤ B) (v0 v1 v2 v3 v4 v5 v6 v7 : Value) : v.In ((Go.Proofs.YtccacjkogdmleaaDoor.set8 w g v0 v1 v2 v3 v4 v5 v6 v7).on (B' ≤ ·)) x :=
  In.keep (fun p u hp => by
    obtain ⟨h1, h2⟩ := on_some.1 hp
    exact on_some.2 ⟨by omega, by rw [World.cell?_of_block (w := w) (heap_set8 _ _ _ (by omega) _ _ _ _ _ _ _ _)]; exact h2⟩) _ _ h

end Go.Proofs.YtccacjkogdmleaaDoor

/- The walks of the document's Reader, twelfth part: value of a number. (By gen_num.py.) -/
namespace Go.Proofs.YtccacjkogdmleaaDoor
open Go.RowKit Js

/-- The reader's block, while a call of its own makes memory. -/
def ReadB (rb : Nat) (s : ByteArray) (a d b p : Int) (w w' : World) : Prop :=
  (w'.cell? ⟨rb, 0, none⟩ = some (.string s) ∧ w'.cell? ⟨rb, 1, none⟩ = some (.int .i64 a) ∧ w'.cell? ⟨rb, 2, none⟩ = some (.int .i64 d) ∧ w'.cell? ⟨rb, 3, none⟩ = some (.int .i64 b) ∧ w'.cell? ⟨rb, 4, none⟩ = some (.int .i64 p)) ∧ Below w.heap.size w w'
theorem ReadB.on {rb : Nat} {s : ByteArray} {a d b p : Int} {w W w1 : World} (h : ReadB rb s a d b p w W) (hb : Below W.heap.size W w1) : ReadB rb s a d b p w w1 := by
  obtain ⟨⟨h0, h1, h2, h3, h4⟩, h5⟩ := h
  have hc : ∀ i v, W.cell? ⟨rb, i, none⟩ = some v → w1.cell? ⟨rb, i, none⟩ = some v := fun i v h => (hb.cell (p := ⟨rb, i, none⟩) (World.block_lt_of_cell? W _ h)).trans h
  exact ⟨⟨hc _ _ h0, hc _ _ h1, hc _ _ h2, hc _ _ h3, hc _ _ h4⟩, h5.trans (hb.mono h5.size)⟩
theorem ReadB.alloc {rb : Nat} {s : ByteArray} {a d b p : Int} {w W : World} (h : ReadB rb s a d b p w W) (o : Obj) : ReadB rb s a d b p w (W.alloc o) := h.on ((Below.refl _ _).alloc (Nat.le_refl _) _)

theorem ReadB.drew {rb : Nat} {s : ByteArray} {a d b p : Int} {w W : World} (h : ReadB rb s a d b p w W) : ReadB rb s a d b p w W.drew := ⟨h.1, h.2.drew⟩
theorem ReadB.set3 {rb : Nat} {s : ByteArray} {a d b p : Int} {w W : World} (h : ReadB rb s a d b p w W) (hr : rb < w.heap.size) (u0 u1 u2 : Value) :
    ReadB rb s a d b p w (((W.setCell ⟨w.heap.size, 0, none⟩ u0).setCell ⟨w.heap.size, 1, none⟩ u1).setCell ⟨w.heap.size, 2, none⟩ u2) := by
  obtain ⟨⟨h0, h1, h2, h3, h4⟩, h5⟩ := h
  have hc : ∀ i v, W.cell? ⟨rb, i, none⟩ = some v → (((W.setCell ⟨w.heap.size, 0, none⟩ u0).setCell ⟨w.heap.size, 1, none⟩ u1).setCell ⟨w.heap.size, 2, none⟩ u2).cell? ⟨rb, i, none⟩ = some v := fun i v h => by
    rw [World.cell?_setCell_other _ _ _ _ (by intro e; injection e with e1; omega), World.cell?_setCell_other _ _ _ _ (by intro e; injection e with e1; omega), World.cell?_setCell_other _ _ _ _ (by intro e; injection e with e1; omega)]; exact h
  exact ⟨⟨hc _ _ h0, hc _ _ h1, hc _ _ h2, hc _ _ h3, hc _ _ h4⟩, ((h5.setCell (p := ⟨w.heap.size, 0, none⟩) (Nat.le_refl _) u0).setCell (p := ⟨w.heap.size, 1, none⟩) (Nat.le_refl _) u1).setCell (p := ⟨w.heap.size, 2, none⟩) (Nat.le_refl _) u2⟩
end Go.Proofs.YtccacjkogdmleaaDoor

/- The document's Parse, and Value of the laws. -/
namespace Go.Proofs.YtccacjkogdmleaaDoor
open Go.RowKit Js
/-- What Parse tells. -/
def PPost (s : ByteArray) (w : World) (e : Ending) (w' : World) : Prop :=
  ∃ (v : Vl) (x : Value) (c p : Int), e = .returned (.tuple #[x, .int .i64 c, .int .i64 p]) ∧ v.In (w'.on (w.heap.size ≤ ·)) x ∧ Below w.heap.size w w' ∧
    (match Ps.parse s.data.toList with
     | .ok v0 _ => v = v0 ∧ c = 0 ∧ p = 0
     | .bad c0 l => v = Ps.mkN ∧ c = c0 ∧ p = (s.size : Int) - l)

/-- A row and two numbers handed back. -/
theorem results_row3 {fn : Func} {p u t : Tmp} {ty : TypeId} (h : fn.results = #[.cell p ty, .tmp u, .tmp t]) (tmps : Array Value) (P : Program) (w : World) {g : Nat} {bt : TypeId} {l : List Value} {d : TypeDesc}
    (hp : tmps.getD p undef = .pointer (some ⟨g, 0, none⟩)) (hg : Blk w g bt l.toArray) (hu : P.underlying ty = some d) (hd : d.isRow = true) (hi : (P.info? ty).map (·.size) = some l.length) :
    (results fn tmps).run P w = .ok (.tuple #[.agg l.toArray, tmps.getD u undef, tmps.getD t undef]) w := by
  have hl : (loadVar ty ⟨g, 0, none⟩).run P w = .ok (.agg l.toArray) w := run_loadVar_mid w g 0 ty l d (fun j v hv => by rw [Nat.zero_add, hg.cell j]; simpa using hv) hu hd hi
  have hp' : tmps[p]?.getD undef = .pointer (some ⟨g, 0, none⟩) := by simpa using hp
  simp [results, h, hp', asAddr, hl]

theorem Blk.drew {w : World} {g : Nat} {t : TypeId} {cs : Array Value} (h : Blk w g t cs) : Blk w.drew g t cs := h
theorem parse_bad_fin {s : ByteArray} {w w' : World} {c l p : Nat} (hP : Ps.parse s.data.toList = .bad c l) (hp : p + l = s.size) (hB : Below w.heap.size w w') : PPost s w (.returned (.tuple #[.agg zero8, .int .i64 c, .int .i64 p])) w' := by
  refine ⟨Ps.mkN, _, c, p, rfl, leaf_in _ 0 false Nm.Num.zero [], hB, ?_⟩
  rw [hP]
  exact ⟨rfl, rfl, by omega⟩

end Go.Proofs.YtccacjkogdmleaaDoor

/- Value of the laws: what a text tells, if it isn't too long. -/
namespace Go.Proofs.YtccacjkogdmleaaDoor
open Go.RowKit Js

/-- What Value tells: nothing; or what Parse reads. -/
def VlPost (s : ByteArray) (w : World) (e : Ending) (w' : World) : Prop :=
  Below w.heap.size w w' ∧ ((∃ x, e = .returned (.tuple #[x, .int .i64 0]) ∧ Vl.In (w'.on (w.heap.size ≤ ·)) Ps.mkN x) ∨
    (∃ v u x, s.size ≤ 2000 ∧ Ps.parse s.data.toList = .ok v u ∧ e = .returned (.tuple #[x, .int .i64 1]) ∧ v.In (w'.on (w.heap.size ≤ ·)) x))

end Go.Proofs.YtccacjkogdmleaaDoor


