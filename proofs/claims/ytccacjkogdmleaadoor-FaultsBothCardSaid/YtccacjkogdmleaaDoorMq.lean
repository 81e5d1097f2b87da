/- Mq: Qe Qf Qg Qh Qi Qj, in one text. -/
import Derived.Test.YtccacjkogdmleaaDoorMp
import Derived.Deep.AppendLies
import Derived.Deep.RegionLaw
import Derived.Deep.CutRange
import Derived.Deep.RegionHeld3
/- A list that grows in a row of its own, and values in it. -/
namespace Go.Proofs.YtccacjkogdmleaaDoor
open Go.RowKit Js

/-- The blocks from B on, but the one in which a slice lies. -/
def Off (B : Nat) (A : Option Addr) : Nat → Prop := fun k => B ≤ k ∧ ∀ ad, A = some ad → k ≠ ad.block

theorem own_cell {w : World} {B : Nat} {e : TypeId} {size : Nat} {g n cp : Nat} {flat : List Value} (h : w.ownsRow B e size (.slice (some ⟨g, 0, none⟩) n cp) n flat) (j : Nat) (u : Value) (hj : flat[j]? = some u) : w.cell? ⟨g, j, none⟩ = some u := by
  rcases h.2 with ⟨h0, _⟩ | ⟨g', cap, cur, h1, h2, h3, h4, h5, h6, h7⟩
  · cases h0
  · injection h1 with e1 e2 e3
    injection e1 with e1
    injection e1 with e1
    subst e1
    rw [cell_of_row w g j cur e (0, 0) h3]
    rw [← h7, List.getElem?_take] at hj
    split at hj
    · simpa using hj
    · cases hj

/-- What a function hands back whose one result lies in a block of its own. -/
theorem results_row1 {fn : Func} {p : Tmp} {ty : TypeId} (h : fn.results = #[.cell p ty]) (tmps : Array Value) (P : Program) (w : World) {g : Nat} {t : TypeId} {l : List Value} {d : TypeDesc}
    (hp : tmps.getD p undef = .pointer (some ⟨g, 0, none⟩)) (hg : Blk w g t l.toArray) (hu : P.underlying ty = some d) (hd : d.isRow = true) (hi : (P.info? ty).map (·.size) = some l.length) :
    (results fn tmps).run P w = .ok (.agg l.toArray) w := by
  have hl : (loadVar ty ⟨g, 0, none⟩).run P w = .ok (.agg l.toArray) w := run_loadVar_mid w g 0 ty l d (fun j v hv => by rw [Nat.zero_add, hg.cell j]; simpa using hv) hu hd hi
  have hp' : tmps[p]?.getD undef = .pointer (some ⟨g, 0, none⟩) := by simpa using hp
  simp [results, h, hp', asAddr, hl]

theorem heap_set8 (w : World) (g k : Nat) (h : k ≠ g) (v0 v1 v2 v3 v4 v5 v6 v7 : Value) : (set8 w g v0 v1 v2 v3 v4 v5 v6 v7).heap[k]? = w.heap[k]? := by
  unfold set8
  rw [Below.heap_setCell _ _ _ _ h, Below.heap_setCell _ _ _ _ h, Below.heap_setCell _ _ _ _ h, Below.heap_setCell _ _ _ _ h, Below.heap_setCell _ _ _ _ h, Below.heap_setCell _ _ _ _ h, Below.heap_setCell _ _ _ _ h, Below.heap_setCell _ _ _ _ h]
theorem size_set8 (w : World) (g : Nat) (v0 v1 v2 v3 v4 v5 v6 v7 : Value) : (set8 w g v0 v1 v2 v3 v4 v5 v6 v7).heap.size = w.heap.size := by simp [set8, World.setCell]

/-- One thing read, then another one. -/
def R_then {α β : Type} : Ps.R α → (List UInt8 → Ps.R β) → Ps.R β
  | .ok _ u, f => f u
  | .bad c l, _ => .bad c l
end Go.Proofs.YtccacjkogdmleaaDoor

/- The walks of the document's Reader, fifth part: array. -/
namespace Go.Proofs.YtccacjkogdmleaaDoor
open Go.RowKit Js

abbrev zero8 : Array Value := #[.int .i64 0, .bool false, .bool false, .string ⟨#[]⟩, .int .i64 0, .string ⟨#[]⟩, .slice none 0 0, .slice none 0 0]
abbrev arr8 (lv : Value) : Array Value := #[.int .i64 4, .bool false, .bool false, .string ⟨#[]⟩, .int .i64 0, .string ⟨#[]⟩, lv, .slice none 0 0]
theorem lit1 (b : UInt8) (t : List UInt8) : Ps.lit [b] t = if t.head? = some b then .ok () t.tail else .bad 1 t.length := by
  cases t with
  | nil => rfl
  | cons c u => simp [Ps.lit]
theorem map_ok {α : Type} (r : Ps.R α) (v : Vl) : ∀ (v0 : Vl) (u : List UInt8), r.map (fun _ => v) = .ok v0 u → v = v0 := by
  cases r with
  | ok x t => intro v0 u h; injection h
  | bad c l => intro v0 u h; cases h

end Go.Proofs.YtccacjkogdmleaaDoor

/- The walks of the document's Reader, sixth part: array's loop. (By gen_array.py.) -/
namespace Go.Proofs.YtccacjkogdmleaaDoor
open Go.RowKit Js
theorem hd_ne {t : List UInt8} {b : UInt8} (h : ¬ t.head? = some b) : ((hd t : Int) != (b.toNat : Int)) = true := by
  cases t with
  | nil => simp [hd]
  | cons c u =>
    have hc : ¬ c = b := fun e => h (by rw [e]; rfl)
    rw [bne, show hd (c :: u) = c.toNat from rfl, byte_neb b hc]; rfl
theorem hd_eq {t : List UInt8} {b : UInt8} (h : t.head? = some b) : ((hd t : Int) != (b.toNat : Int)) = false := by
  cases t with
  | nil => cases h
  | cons c u => cases h; simp [hd]

theorem elems_eq (f d : Nat) (t : List UInt8) (acc : List Vl) : Ps.elems (f + 1) d t acc = match Ps.value f d t with
    | .bad c l => .bad c l
    | .ok v t2 => if t2.head? = some 44 then Ps.elems f d t2.tail (acc ++ [v]) else (Ps.lit [93] t2).map (fun _ => Ps.mkA (acc ++ [v])) := by
  rw [Ps.elems]
  cases Ps.value f d t with
  | bad c l => rfl
  | ok v t2 =>
    cases t2 with
    | nil => rfl
    | cons c u =>
      simp only [List.head?_cons, List.tail_cons, Option.some.injEq]
      by_cases h : c = 44
      · rw [if_pos h, if_pos h]
      · rw [if_neg h, if_neg h, lit1]
        by_cases h2 : c = 93
        · subst h2; rfl
        · rw [if_neg h2, if_neg (by simpa using h2)]; rfl

theorem own_keep {w w' : World} {B : Nat} {e : TypeId} {size : Nat} {v : Value} {n : Nat} {xs : List Value} (h : w.ownsRow B e size v n xs) (hb : ∀ k, B ≤ k → k < w.heap.size → w'.heap[k]? = w.heap[k]?) : w'.ownsRow B e size v n xs := by
  refine ⟨h.1, ?_⟩
  rcases h.2 with h0 | ⟨g, cap, cur, h1, h2, h3, h4⟩
  · exact .inl h0
  · exact .inr ⟨g, cap, cur, h1, h2, by rw [hb g h2 (Blk.lt (cs := cur) h3)]; exact h3, h4⟩

theorem own_far {w : World} {B : Nat} {e : TypeId} {size : Nat} {v : Value} {n : Nat} {xs : List Value} (h : w.ownsRow B e size v n xs) {k : Nat} (hk : k < B) : some k ≠ v.ownBlock := by
  rcases h.2 with ⟨rfl, _⟩ | ⟨g, cap, cur, rfl, h2, _⟩
  · simp [Value.ownBlock]
  · simp only [Value.ownBlock, ne_eq, Option.some.injEq]; omega
theorem grown_blk {w w' : World} {o : Obj} {row : Option Nat} {g : Nat} {t : TypeId} {cs : Array Value} (h : Blk w g t cs) (hg : (w.alloc o).grownBy w' row) (hr : some g ≠ row) : Blk w' g t cs :=
  (hg.block g (by have := h.lt; simp; omega) hr).trans (h.alloc o)

end Go.Proofs.YtccacjkogdmleaaDoor

/- Lists of members that grow: append from whatever source; members in a row of its own. -/
namespace Go.Proofs.YtccacjkogdmleaaDoor
open Go.RowKit Js
/-- What a slice of a row is. -/
theorem own_form {w : World} {B : Nat} {e : TypeId} {size : Nat} {v : Value} {n : Nat} {xs : List Value} (h : w.ownsRow B e size v n xs) : ∃ A c, v = .slice A n c := by
  rcases h.2 with ⟨rfl, rfl⟩ | ⟨g, cap, cur, rfl, _⟩
  · exact ⟨_, _, rfl⟩
  · exact ⟨_, _, rfl⟩

/-- What is appended: nothing of nil; or cells that lie somewhere. -/
def Src (w : World) (A : Option Addr) (m c : Nat) (news : List Value) : Prop :=
  (A = none ∧ m = 0 ∧ c = 0 ∧ news = []) ∨ ∃ ad, A = some ad ∧ ∀ (j : Nat) u, news[j]? = some u → w.cell? (ad.add j) = some u

theorem step_append_src {P : Program} (w : World) {ops : Array Oper} {o : Oper} {a : Act} {K : Act → World → Prop} {Q : Exit → Act → World → Prop} {E : Prop} (hgd : o.guard = none) (s x : Operand) (t : TypeId)
    (ho : o.op = .call { callee := .builtin .append, args := #[s, x], argTypes := #[t, t] })
    (base : Nat) (e : TypeId) (i : TypeInfo) (z : Value) (size bytes : Nat) (ht : P.underlying t = some (.slice e)) (hi : P.info? e = some i) (hz : i.zero = some z)
    (hsize : i.size = size) (hby : i.bytes = bytes) (hzs : z.cells.size = size) (hsz : 0 < size)
    (v : Value) (n : Nat) (xs : List Value) (hs : a.eval s = v) (hown : w.ownsRow base e size v n xs)
    (A : Option Addr) (m c : Nat) (news : List Value) (hx : a.eval x = .slice A m c) (hl : news.length = m * size) (hsrc : Src w A m c news) (h1 : ∀ u ∈ news, u.oneCell' = true)
    (h63 : n + m ≤ maxLen) (hbytes : (n + m) * bytes ≤ 140737488355328) (hbase : base ≤ w.heap.size) (N : Nat) (hN : n + m = N)
    (h : ∀ A' c' w', w'.ownsRow base e size (.slice A' N c') N (xs ++ news) → w.grownBy w' v.ownBlock → ((Value.slice A' N c').ownBlock = v.ownBlock ∨ (Value.slice A' N c').ownBlock = some w.heap.size) → K (a.put o.dst (.slice A' N c')) w') :
    if Region.wanted o (yielded ops a.tmps) = true then Oper.wp P o a w K Q else E := by
  have hw : Region.wanted o (yielded ops a.tmps) = true := by simp [Region.wanted, hgd]
  rw [if_pos hw]
  subst hN
  obtain ⟨v', w', hrun, k1, k2, k3⟩ : ∃ v' w', (Builtin.append_ #[t, t] o.type #[v, .slice A m c]).run P w = .ok v' w' ∧ w'.ownsRow base e size v' (n + m) (xs ++ news) ∧ w.grownBy w' v.ownBlock ∧ (v'.ownBlock = v.ownBlock ∨ v'.ownBlock = some w.heap.size) := by
    rcases hsrc with ⟨rfl, rfl, rfl, rfl⟩ | ⟨ad, rfl, hc⟩
    · exact ⟨v, w, run_append_owned_none w base t o.type e i size ht hi v n xs hown, by simpa using hown, World.grownBy.refl w _, .inl rfl⟩
    · obtain ⟨v', w', r1, r2, r3, _, r5⟩ := run_append_own_at (P := P) w base t o.type e i z size bytes ht hi hz hsize hby hzs hsz v n xs hown ad m c news hl hc h1 h63 hbytes hbase
      exact ⟨v', w', r1, r2, r3, r5⟩
  obtain ⟨A', c', rfl⟩ := own_form k1
  unfold Oper.wp
  simp [execOp, ho, resolve, invoke, builtin, hs, hx, hrun, Result.andThen]
  exact h A' c' w' k1 k2 k3

theorem wpList_append_src {P : Program} (w : World) {ops : Array Oper} {rest : List Oper} {o : Oper} {a : Act} {Q : Exit → Act → World → Prop} (hgd : o.guard = none) (s x : Operand) (t : TypeId)
    (ho : o.op = .call { callee := .builtin .append, args := #[s, x], argTypes := #[t, t] })
    (base : Nat) (e : TypeId) (i : TypeInfo) (z : Value) (size bytes : Nat) (ht : P.underlying t = some (.slice e)) (hi : P.info? e = some i) (hz : i.zero = some z)
    (hsize : i.size = size) (hby : i.bytes = bytes) (hzs : z.cells.size = size) (hsz : 0 < size)
    (v : Value) (n : Nat) (xs : List Value) (hs : a.eval s = v) (hown : w.ownsRow base e size v n xs)
    (A : Option Addr) (m c : Nat) (news : List Value) (hx : a.eval x = .slice A m c) (hl : news.length = m * size) (hsrc : Src w A m c news) (h1 : ∀ u ∈ news, u.oneCell' = true)
    (h63 : n + m ≤ maxLen) (hbytes : (n + m) * bytes ≤ 140737488355328) (hbase : base ≤ w.heap.size) (N : Nat) (hN : n + m = N)
    (h : ∀ A' c' w', w'.ownsRow base e size (.slice A' N c') N (xs ++ news) → w.grownBy w' v.ownBlock → ((Value.slice A' N c').ownBlock = v.ownBlock ∨ (Value.slice A' N c').ownBlock = some w.heap.size) → wpList P ops Q rest (a.put o.dst (.slice A' N c')) w') :
    wpList P ops Q (o :: rest) a w := by
  refine wpList_plain hgd fun K hK => ?_
  have := step_append_src (P := P) w (ops := ops) (K := K) (Q := Q) (E := True) (o := o) (a := a) hgd s x t ho base e i z size bytes ht hi hz hsize hby hzs hsz v n xs hs hown A m c news hx hl hsrc h1 h63 hbytes hbase N hN (fun A' c' w' k1 k2 k3 => hK _ _ (h A' c' w' k1 k2 k3))
  rwa [if_pos (by simp [Region.wanted, hgd])] at this

abbrev zero9 : Array Value := #[.string ⟨#[]⟩, .int .i64 0, .bool false, .bool false, .string ⟨#[]⟩, .int .i64 0, .string ⟨#[]⟩, .slice none 0 0, .slice none 0 0]
theorem own_le {w : World} {B : Nat} {e : TypeId} {size : Nat} {A : Option Addr} {n cp : Nat} {xs : List Value} (h : w.ownsRow B e size (.slice A n cp) n xs) : n ≤ cp ∧ cp ≤ maxLen ∧ (A = none → n = 0 ∧ cp = 0) ∧ (∀ ad, A = some ad → ∃ g, ad = ⟨g, 0, none⟩ ∧ B ≤ g ∧ g < w.heap.size) := by
  rcases h.2 with ⟨h0, h1⟩ | ⟨g, cap, cur, h1, h2, h3, h4, h5, _⟩
  · injection h0 with e1 e2 e3
    subst e1 e3
    exact ⟨by omega, by simp [maxLen], fun _ => ⟨h1, rfl⟩, fun ad h => by cases h⟩
  · injection h1 with e1 e2 e3
    subst e1 e3
    exact ⟨h4, h5, fun h => (by cases h), fun ad h => by cases h; exact ⟨g, rfl, h2, Blk.lt (cs := cur) h3⟩⟩

theorem take_of_app {α : Type} {a b l : List α} (h : a ++ b = l) : l.take a.length = a := by subst h; exact List.take_left
theorem drop_of_app {α : Type} {a b l : List α} (h : a ++ b = l) : l.drop a.length = b := by subst h; exact List.drop_left
def hdR {α : Type} : Ps.R α → Int
  | .ok _ u => hd u
  | .bad _ _ => -1
end Go.Proofs.YtccacjkogdmleaaDoor

/- The walks of the document's Reader, seventh part: value where something is amiss. -/
namespace Go.Proofs.YtccacjkogdmleaaDoor
open Go.RowKit Js
end Go.Proofs.YtccacjkogdmleaaDoor

/- The walks of the document's Reader, eighth part: object. -/
namespace Go.Proofs.YtccacjkogdmleaaDoor
open Go.RowKit Js

abbrev obj8 (lv : Value) : Array Value := #[.int .i64 5, .bool false, .bool false, .string ⟨#[]⟩, .int .i64 0, .string ⟨#[]⟩, .slice none 0 0, lv]
end Go.Proofs.YtccacjkogdmleaaDoor


