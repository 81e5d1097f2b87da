/- Plain mathematics of layer 13 (faults): lists that rise. -/
import Derived.Test.YtccacjkogdmleaaDoorMc
namespace Go.Proofs.YtccacjkogdmleaaDoor.Fl
open Js

/-- A fault. -/
structure F where
  inst : List UInt8
  sch : List UInt8
  kw : List UInt8
theorem F.ext' {a b : F} (h1 : a.inst = b.inst) (h2 : a.sch = b.sch) (h3 : a.kw = b.kw) : a = b := by
  obtain ⟨_, _, _⟩ := a
  obtain ⟨_, _, _⟩ := b
  simp only at h1 h2 h3
  subst h1 h2 h3
  rfl
theorem F.eq_iff {a b : F} : a = b ↔ a.inst = b.inst ∧ a.sch = b.sch ∧ a.kw = b.kw := ⟨fun h => h ▸ ⟨rfl, rfl, rfl⟩, fun h => F.ext' h.1 h.2.1 h.2.2⟩
instance : DecidableEq F := fun a b => decidable_of_iff (a.inst = b.inst ∧ a.sch = b.sch ∧ a.kw = b.kw) F.eq_iff.symm
/-- By Instance, then Schema, then Keyword. -/
def lt (a b : F) : Prop := Lib.compareBytes a.inst b.inst = -1 ∨ (a.inst = b.inst ∧ (Lib.compareBytes a.sch b.sch = -1 ∨ (a.sch = b.sch ∧ Lib.compareBytes a.kw b.kw = -1)))
/-- As the document's Above asks it. -/
def above (a b : F) : Bool := if a.inst = b.inst then (if a.sch = b.sch then Op.bytesLess b.kw a.kw else Op.bytesLess b.sch a.sch) else Op.bytesLess b.inst a.inst
theorem less_no {a : List UInt8} : ¬ Lib.compareBytes a a = -1 := by rw [Nm.bytes_self]; omega
theorem less_tri (a b : List UInt8) : Lib.compareBytes a b = -1 ∨ a = b ∨ Lib.compareBytes b a = -1 := by
  have h1 := Nm.bytes_range a b
  have h2 := Nm.bytes_flip a b
  by_cases h : Lib.compareBytes a b = 0
  · exact .inr (.inl (Nm.bytes_zero a b h))
  · rcases Int.lt_or_gt_of_ne h with k | k
    · left; omega
    · right; right; omega
theorem lt_no (a : F) : ¬ lt a a := fun h => by
  rcases h with h | ⟨_, h | ⟨_, h⟩⟩
  · exact less_no h
  · exact less_no h
  · exact less_no h
theorem lt_trans {a b c : F} (h : lt a b) (k : lt b c) : lt a c := by
  rcases h with h | ⟨e, h⟩
  · rcases k with k | ⟨e2, _⟩
    · exact .inl (less_trans h k)
    · exact .inl (e2 ▸ h)
  · rcases k with k | ⟨e2, k⟩
    · exact .inl (e ▸ k)
    · refine .inr ⟨e.trans e2, ?_⟩
      rcases h with h | ⟨d, h⟩
      · rcases k with k | ⟨d2, _⟩
        · exact .inl (less_trans h k)
        · exact .inl (d2 ▸ h)
      · rcases k with k | ⟨d2, k⟩
        · exact .inl (d ▸ k)
        · exact .inr ⟨d.trans d2, less_trans h k⟩
theorem lt_tri (a b : F) : lt a b ∨ a = b ∨ lt b a := by
  rcases less_tri a.inst b.inst with h | h | h
  · exact .inl (.inl h)
  · rcases less_tri a.sch b.sch with k | k | k
    · exact .inl (.inr ⟨h, .inl k⟩)
    · rcases less_tri a.kw b.kw with q | q | q
      · exact .inl (.inr ⟨h, .inr ⟨k, q⟩⟩)
      · exact .inr (.inl (F.ext' h k q))
      · exact .inr (.inr (.inr ⟨h.symm, .inr ⟨k.symm, q⟩⟩))
    · exact .inr (.inr (.inr ⟨h.symm, .inl k⟩))
  · exact .inr (.inr (.inl h))
theorem above_iff (a b : F) : above a b = true ↔ lt b a := by
  unfold above lt
  by_cases h : a.inst = b.inst
  · rw [if_pos h]
    by_cases k : a.sch = b.sch
    · rw [if_pos k, Nm.less_bytes, decide_eq_true_eq, h, k]
      exact ⟨fun q => .inr ⟨rfl, .inr ⟨rfl, q⟩⟩, fun q => (q.resolve_left less_no).2.elim (fun z => absurd z less_no) (·.2)⟩
    · rw [if_neg k, Nm.less_bytes, decide_eq_true_eq, h]
      exact ⟨fun q => .inr ⟨rfl, .inl q⟩, fun q => (q.resolve_left less_no).2.elim id (fun z => absurd z.1.symm k)⟩
  · rw [if_neg h, Nm.less_bytes, decide_eq_true_eq]
    exact ⟨.inl, fun q => q.elim id (fun z => absurd z.1.symm h)⟩
def Rises (l : List F) : Prop := l.Pairwise lt
/-- A fault more, at its place. -/
def ins (x : F) : List F → List F
  | [] => [x]
  | y :: r => if above x y = true then y :: ins x r else if y = x then y :: r else x :: y :: r
theorem ins_mem {x y : F} : ∀ {l : List F}, y ∈ ins x l ↔ y = x ∨ y ∈ l
  | [] => by simp [ins]
  | z :: r => by
    unfold ins
    split
    · rw [List.mem_cons, ins_mem, List.mem_cons]
      constructor
      · rintro (h | h | h)
        · exact .inr (.inl h)
        · exact .inl h
        · exact .inr (.inr h)
      · rintro (h | h | h)
        · exact .inr (.inl h)
        · exact .inl h
        · exact .inr (.inr h)
    · split
      · rename_i h
        subst h
        simp
      · rw [List.mem_cons]
theorem ins_rises {x : F} : ∀ {l : List F}, Rises l → Rises (ins x l)
  | [], _ => by unfold ins Rises; simp
  | y :: r, h => by
    obtain ⟨h1, h2⟩ := List.pairwise_cons.1 h
    unfold ins
    split
    · rename_i ha
      refine List.pairwise_cons.2 ⟨fun z hz => ?_, ins_rises h2⟩
      rcases ins_mem.1 hz with rfl | hz
      · exact (above_iff _ _).1 ha
      · exact h1 z hz
    · rename_i ha
      split
      · exact h
      · rename_i hne
        have hxy : lt x y := by
          rcases lt_tri x y with k | k | k
          · exact k
          · exact absurd k.symm hne
          · exact absurd ((above_iff _ _).2 k) ha
        refine List.pairwise_cons.2 ⟨fun z hz => ?_, h⟩
        rcases List.mem_cons.1 hz with rfl | hz
        · exact hxy
        · exact lt_trans hxy (h1 z hz)
def sortOn (out : List F) : List F → List F
  | [] => out
  | x :: r => sortOn (ins x out) r
def sort (l : List F) : List F := sortOn [] l
theorem sortOn_mem {y : F} : ∀ {l out : List F}, y ∈ sortOn out l ↔ y ∈ out ∨ y ∈ l
  | [], out => by simp [sortOn]
  | x :: r, out => by
    unfold sortOn
    rw [sortOn_mem, ins_mem, List.mem_cons]
    constructor
    · rintro ((h | h) | h)
      · exact .inr (.inl h)
      · exact .inl h
      · exact .inr (.inr h)
    · rintro (h | h | h)
      · exact .inl (.inr h)
      · exact .inl (.inl h)
      · exact .inr h
theorem sortOn_rises : ∀ {l out : List F}, Rises out → Rises (sortOn out l)
  | [], _, h => h
  | x :: r, out, h => sortOn_rises (l := r) (out := ins x out) (ins_rises h)
theorem sort_mem {y : F} {l : List F} : y ∈ sort l ↔ y ∈ l := by unfold sort; rw [sortOn_mem]; simp
theorem sort_rises (l : List F) : Rises (sort l) := sortOn_rises List.Pairwise.nil
theorem sortOn_append (b : List F) : ∀ (a out : List F), sortOn out (a ++ b) = sortOn (sortOn out a) b
  | [], _ => rfl
  | x :: r, out => by rw [List.cons_append, sortOn, sortOn, sortOn_append b r]
/-- Two lists that rise and have the same faults are one. -/
theorem rises_one : ∀ {a b : List F}, Rises a → Rises b → (∀ x, x ∈ a ↔ x ∈ b) → a = b
  | [], [], _, _, _ => rfl
  | [], y :: _, _, _, h => by have := (h y).2 (by simp); cases this
  | x :: _, [], _, _, h => by have := (h x).1 (by simp); cases this
  | x :: r, y :: s, ha, hb, h => by
    obtain ⟨a1, a2⟩ := List.pairwise_cons.1 ha
    obtain ⟨b1, b2⟩ := List.pairwise_cons.1 hb
    have hxy : x = y := by
      rcases List.mem_cons.1 ((h x).1 (by simp)) with k | k
      · exact k
      · rcases List.mem_cons.1 ((h y).2 (by simp)) with q | q
        · exact q.symm
        · exact absurd (lt_trans (a1 y q) (b1 x k)) (lt_no x)
    subst hxy
    rw [rises_one a2 b2 (fun z => ?_)]
    constructor
    · intro hz
      rcases List.mem_cons.1 ((h z).1 (List.mem_cons_of_mem _ hz)) with k | k
      · subst k; exact absurd (a1 z hz) (lt_no z)
      · exact k
    · intro hz
      rcases List.mem_cons.1 ((h z).2 (List.mem_cons_of_mem _ hz)) with k | k
      · subst k; exact absurd (b1 z hz) (lt_no z)
      · exact k
theorem sort_is {a l : List F} (h : Rises a) (hm : ∀ x, x ∈ a ↔ x ∈ l) : sort l = a := rises_one (sort_rises l) h (fun x => sort_mem.trans (hm x).symm)
theorem sort_same {a b : List F} (hm : ∀ x, x ∈ a ↔ x ∈ b) : sort a = sort b := rises_one (sort_rises a) (sort_rises b) (fun x => sort_mem.trans ((hm x).trans sort_mem.symm))
theorem sort_self {l : List F} (h : Rises l) : sort l = l := sort_is h (fun _ => Iff.rfl)
/-- Merge of two sorted lists is Sort of both together, either way round. -/
theorem sort_both (a b : List F) : sort (sort a ++ sort b) = sort (a ++ b) := sort_same fun x => by rw [List.mem_append, List.mem_append, sort_mem, sort_mem]
theorem sort_swap (a b : List F) : sort (sort b ++ sort a) = sort (a ++ b) := sort_same fun x => by rw [List.mem_append, List.mem_append, sort_mem, sort_mem, or_comm]
theorem sort_length : ∀ {l out : List F}, (sortOn out l).length ≤ out.length + l.length
  | [], out => by simp [sortOn]
  | x :: r, out => by
    have h : ∀ {q : List F}, (ins x q).length ≤ q.length + 1 := by
      intro q
      induction q with
      | nil => simp [ins]
      | cons y s ih =>
        unfold ins
        split
        · simp only [List.length_cons]; omega
        · split
          · simp
          · simp
    have := @sort_length r (ins x out)
    have := @h out
    unfold sortOn
    rw [List.length_cons]
    omega
/-- Under a name all rises as before. -/
theorem less_under (p : List UInt8) (a b : List UInt8) : Lib.compareBytes (p ++ a) (p ++ b) = Lib.compareBytes a b := by
  induction p with
  | nil => rfl
  | cons c p ih =>
    rw [List.cons_append, List.cons_append, Lib.compareBytes]
    simp [ih]
def under (p : List UInt8) (l : List F) : List F := l.map fun f => { f with inst := p ++ f.inst }
theorem under_rises (p : List UInt8) {l : List F} (h : Rises l) : Rises (under p l) := by
  refine List.pairwise_map.2 (h.imp ?_)
  intro a b hab
  rcases hab with k | ⟨e, k⟩
  · exact .inl (by rw [less_under]; exact k)
  · exact .inr ⟨by simp only [e], k⟩

end Go.Proofs.YtccacjkogdmleaaDoor.Fl

