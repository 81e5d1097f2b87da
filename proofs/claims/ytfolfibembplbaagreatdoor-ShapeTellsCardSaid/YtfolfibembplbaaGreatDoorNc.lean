/- Nc: Zg Ya Yc, in one text. -/
import Derived.Test.YtfolfibembplbaaGreatDoorMc
/- The program's parse, seventh part: a number's stages, as mathematics. -/
namespace Go.Proofs.YtfolfibembplbaaGreatDoor.Ps
open Js

/-- One digit or more. -/
def digitsU (t : List UInt8) : R Unit := if Nm.pre t = [] then .bad 1 t.length else .ok () (Nm.suf t)
def num1 (t : List UInt8) : List UInt8 := if t.head? = some 45 then t.tail else t
def num2 (t : List UInt8) : R Unit := if t.head? = some 48 then .ok () t.tail else digitsU t
def num3 (t : List UInt8) : R Unit := if t.head? = some 46 then digitsU t.tail else .ok () t
def num4 (t : List UInt8) : R Unit := if t.head? = some 101 ∨ t.head? = some 69 then digitsU (Nm.unsgn t.tail) else .ok () t

theorem trim_45 (t : List UInt8) : Lib.trimPrefix t [45] = num1 t := by
  unfold Lib.trimPrefix num1
  cases t with
  | nil => simp [Lib.hasPrefix]
  | cons c u =>
    by_cases h : c = 45
    · subst h; simp [Lib.hasPrefix]
    · simp [Lib.hasPrefix, h]
      exact fun e => h e.symm
theorem suf_of_pre {t : List UInt8} (h : Nm.pre t = []) : Nm.suf t = t := by
  have := Nm.pre_suf t
  rw [h] at this
  exact this
theorem pre_48 {t : List UInt8} (h : t.head? = some 48) : Nm.pre t ≠ [] := by
  cases t with
  | nil => cases h
  | cons c u =>
    cases h
    unfold Nm.pre
    rw [List.takeWhile_cons_of_pos (by decide)]
    simp

theorem digitsU_cases (t : List UInt8) : (Nm.pre t = [] ∧ digitsU t = .bad 1 t.length ∧ Nm.suf t = t) ∨ (Nm.pre t ≠ [] ∧ digitsU t = .ok () (Nm.suf t)) := by
  by_cases h : Nm.pre t = []
  · left; exact ⟨h, by unfold digitsU; rw [if_pos h], suf_of_pre h⟩
  · right; exact ⟨h, by unfold digitsU; rw [if_neg h]⟩
theorem exp_stage (t : List UInt8) : match num4 t with
    | .bad c l => c = 1 ∧ (Nm.endExp t).2 = false ∧ (Nm.endExp t).1.length = l
    | .ok _ u => Nm.endExp t = (u, true) := by
  unfold num4 Nm.endExp
  cases t with
  | nil => simp
  | cons c r =>
    by_cases h : c = 101 ∨ c = 69
    · rw [if_pos (by simpa using h)]
      simp only [List.tail_cons]
      rw [if_pos h]
      rcases digitsU_cases (Nm.unsgn r) with ⟨h1, h2, h3⟩ | ⟨h1, h2⟩
      · rw [h2, h1, h3]; simp
      · rw [h2]; simp [h1]
    · rw [if_neg (by simpa using h)]
      simp only
      rw [if_neg h]
theorem point_stage (t : List UInt8) : match num3 t with
    | .bad c l => c = 1 ∧ (Nm.endPoint t).2 = false ∧ (Nm.endPoint t).1.length = l
    | .ok _ u => Nm.endPoint t = Nm.endExp u := by
  unfold num3
  by_cases h : t.head? = some 46
  · rw [if_pos h]
    cases t with
    | nil => cases h
    | cons c r =>
      cases h
      simp only [List.tail_cons]
      have e : Nm.endPoint (46 :: r) = if (Nm.pre r).isEmpty then (Nm.suf r, false) else Nm.endExp (Nm.suf r) := rfl
      rcases digitsU_cases r with ⟨h1, h2, h3⟩ | ⟨h1, h2⟩
      · rw [h2, e, h1]; simp [h3]
      · rw [h2, e]; simp [h1]
  · rw [if_neg h]
    exact Nm.endPoint_none t h
theorem first_stage (t : List UInt8) : match num2 (num1 t) with
    | .bad c l => c = 1 ∧ (Nm.endOf t).2 = false ∧ (Nm.endOf t).1.length = l
    | .ok _ u => Nm.endOf t = Nm.endPoint u := by
  unfold Nm.endOf
  simp only
  rw [trim_45]
  generalize num1 t = t1
  unfold num2
  by_cases h : t1.head? = some 48
  · rw [if_pos h]
    simp only
    rw [if_neg (by simpa using pre_48 h), if_pos h, List.drop_one]
  · rw [if_neg h]
    rcases digitsU_cases t1 with ⟨h1, h2, h3⟩ | ⟨h1, h2⟩
    · rw [h2, h1]; simp
    · rw [h2]; simp [h1, h]

/-- Where a number's text ends early all reading ends. -/
theorem number_first {t : List UInt8} {c l : Nat} (h : num2 (num1 t) = .bad c l) : number t = .bad c l := by
  have := first_stage t
  rw [h] at this
  unfold number
  rw [if_pos this.2.1, this.2.2, this.1]
theorem number_point {t u : List UInt8} {x : Unit} {c l : Nat} (h : num2 (num1 t) = .ok x u) (h3 : num3 u = .bad c l) : number t = .bad c l := by
  have h1 := first_stage t
  rw [h] at h1
  have h2 := point_stage u
  rw [h3] at h2
  unfold number
  rw [h1, if_pos h2.2.1, h2.2.2, h2.1]
theorem number_exp {t u u2 : List UInt8} {x y : Unit} {c l : Nat} (h : num2 (num1 t) = .ok x u) (h3 : num3 u = .ok y u2) (h4 : num4 u2 = .bad c l) : number t = .bad c l := by
  have h1 := first_stage t
  rw [h] at h1
  have h2 := point_stage u
  rw [h3] at h2
  have h5 := exp_stage u2
  rw [h4] at h5
  unfold number
  rw [h1, h2, if_pos h5.2.1, h5.2.2, h5.1]
theorem number_end {t u u2 u3 : List UInt8} {x y z : Unit} (h : num2 (num1 t) = .ok x u) (h3 : num3 u = .ok y u2) (h4 : num4 u2 = .ok z u3) :
    Nm.endOf t = (u3, true) ∧ number t = if (Nm.parse (t.take (t.length - u3.length))).2 = 0 then .ok (Nm.parse (t.take (t.length - u3.length))).1 u3 else .bad 5 t.length := by
  have h1 := first_stage t
  rw [h] at h1
  have h2 := point_stage u
  rw [h3] at h2
  have h5 := exp_stage u2
  rw [h4] at h5
  have he : Nm.endOf t = (u3, true) := by rw [h1, h2, h5]
  refine ⟨he, ?_⟩
  unfold number
  rw [he]
  simp

end Go.Proofs.YtfolfibembplbaaGreatDoor.Ps

/- Plain mathematics of layer 4 (parse), third part: more bytes behind; one level deeper; more rounds. -/
namespace Go.Proofs.YtfolfibembplbaaGreatDoor.Ps
open Js

/-- No number goes on there. -/
def Stop (x : List UInt8) : Prop := ∀ c, x.head? = some c → Nm.dig c = false ∧ c ≠ 46 ∧ c ≠ 101 ∧ c ≠ 69

theorem pre_stop {x : List UInt8} (hx : Stop x) : Nm.pre x = [] ∧ Nm.suf x = x := by
  cases x with
  | nil => exact ⟨rfl, rfl⟩
  | cons c r =>
    have := (hx c rfl).1
    simp [Nm.pre, Nm.suf, this]
theorem pre_app {x : List UInt8} (hx : Stop x) (t : List UInt8) : Nm.pre (t ++ x) = Nm.pre t ∧ Nm.suf (t ++ x) = Nm.suf t ++ x := by
  induction t with
  | nil => have := pre_stop hx; simpa [Nm.pre, Nm.suf] using this
  | cons c t ih =>
    cases h : Nm.dig c with
    | true => simp only [Nm.pre, Nm.suf, List.cons_append] at ih ⊢; simp [h, ih.1, ih.2]
    | false => simp [Nm.pre, Nm.suf, h]
theorem endExp_app {x : List UInt8} (hx : Stop x) {t : List UInt8} (h : (Nm.endExp t).2 = true) : Nm.endExp (t ++ x) = ((Nm.endExp t).1 ++ x, true) := by
  cases t with
  | nil =>
    cases x with
    | nil => rfl
    | cons c r =>
      have := hx c rfl
      simp [Nm.endExp, this.2.2.1, this.2.2.2]
  | cons c r =>
    simp only [Nm.endExp] at h
    simp only [List.cons_append, Nm.endExp]
    by_cases hc : c = 101 ∨ c = 69
    · rw [if_pos hc] at h
      rw [if_pos hc, if_pos hc]
      cases r with
      | nil => simp [Nm.unsgn, Nm.pre] at h
      | cons d r =>
        have e : Nm.unsgn (d :: r ++ x) = Nm.unsgn (d :: r) ++ x := by
          simp only [List.cons_append, Nm.unsgn]
          split <;> rfl
        rw [e, (pre_app hx _).1, (pre_app hx _).2]
        simp only at h
        rw [h]
    · rw [if_neg hc, if_neg hc]; rfl
theorem endPoint_app {x : List UInt8} (hx : Stop x) {t : List UInt8} (h : (Nm.endPoint t).2 = true) : Nm.endPoint (t ++ x) = ((Nm.endPoint t).1 ++ x, true) := by
  have e : ∀ r, Nm.endPoint (46 :: r) = if (Nm.pre r).isEmpty then (Nm.suf r, false) else Nm.endExp (Nm.suf r) := fun _ => rfl
  by_cases hc : t.head? = some 46
  · cases t with
    | nil => cases hc
    | cons c r =>
      cases hc
      rw [e] at h ⊢
      rw [List.cons_append, e, (pre_app hx _).1, (pre_app hx _).2]
      by_cases hp : (Nm.pre r).isEmpty = true
      · rw [if_pos hp] at h; cases h
      · rw [if_neg hp] at h ⊢
        rw [if_neg hp]
        exact endExp_app hx h
  · rw [Nm.endPoint_none t hc] at h ⊢
    rw [Nm.endPoint_none (t ++ x), endExp_app hx h]
    cases t with
    | nil =>
      intro h2
      cases x with
      | nil => cases h2
      | cons c r => cases h2; exact (hx 46 rfl).2.1 rfl
    | cons c r => simpa using hc
theorem num1_app {t : List UInt8} (x : List UInt8) (h : t ≠ []) : num1 (t ++ x) = num1 t ++ x := by
  cases t with
  | nil => exact absurd rfl h
  | cons c r =>
    unfold num1
    by_cases hc : c = 45 <;> simp [hc]
theorem endOf_app {x : List UInt8} (hx : Stop x) {t : List UInt8} (h : (Nm.endOf t).2 = true) : Nm.endOf (t ++ x) = ((Nm.endOf t).1 ++ x, true) := by
  unfold Nm.endOf at h ⊢
  simp only at h ⊢
  rw [trim_45] at h ⊢
  rw [trim_45]
  have hne : t ≠ [] := by
    rintro rfl
    simp [num1, Nm.pre] at h
  rw [num1_app x hne]
  generalize num1 t = t1 at h ⊢
  by_cases hp : (Nm.pre t1).isEmpty = true
  · rw [if_pos hp] at h; cases h
  · rw [if_neg hp] at h ⊢
    rw [(pre_app hx t1).1, if_neg hp]
    cases t1 with
    | nil => simp [Nm.pre] at hp
    | cons c r =>
      by_cases hc : c = 48
      · subst hc
        simp only [List.head?_cons, if_true, List.drop_succ_cons, List.drop_zero, List.cons_append] at h ⊢
        exact endPoint_app hx h
      · simp only [List.head?_cons, Option.some.injEq, hc, if_false] at h
        simp only [List.cons_append, List.head?_cons, Option.some.injEq, hc, if_false]
        rw [← List.cons_append, (pre_app hx _).2]
        exact endPoint_app hx h

theorem number_app {x : List UInt8} (hx : Stop x) {t : List UInt8} {n : Nm.Num} {u : List UInt8} (h : number t = .ok n u) : number (t ++ x) = .ok n (u ++ x) := by
  obtain ⟨_, hr, hl, he, hu, hp⟩ := number_ok h
  have e := endOf_app hx he
  rw [← hu] at e
  unfold number
  rw [e]
  have hlen : (t ++ x).length - (u ++ x).length = t.length - u.length := by simp only [List.length_append]; omega
  simp only [hlen]
  rw [List.take_append_of_le_length (by omega), hp]
  simp
theorem lit_self (w u : List UInt8) : lit w (w ++ u) = .ok () u := by
  induction w with
  | nil => cases u <;> rfl
  | cons c w ih => simp [lit, ih]
theorem lit_app {w t u : List UInt8} {y : Unit} (x : List UInt8) (h : lit w t = .ok y u) : lit w (t ++ x) = .ok y (u ++ x) := by
  rw [lit_ok h, List.append_assoc, lit_self]
theorem qtext_app {t o u : List UInt8} (x : List UInt8) (h : qtext t = .ok o u) : qtext (t ++ x) = .ok o (u ++ x) := by
  cases t with
  | nil => cases h
  | cons c v =>
    by_cases hc : c = 34
    · subst hc
      simp only [qtext, if_pos, List.cons_append] at h ⊢
      cases hr : St.run (v.length + 1) v [] 1 with
      | bad k p => rw [hr] at h; cases h
      | ok o' p =>
        rw [hr] at h
        injection h with h1 h2
        subst h1 h2
        rw [St.run_append _ _ _ _ hr ((v ++ x).length + 1) x (by simp)]
        have hp := St.run_past _ _ _ _ hr
        simp only
        rw [← List.cons_append, List.drop_append_of_le_length (by simp only [List.length_cons]; omega)]
    · simp only [qtext, if_neg hc] at h; cases h

theorem single_app {x : List UInt8} (hx : Stop x) {c : UInt8} {u r : List UInt8} {v : Vl} (h : single c u = .ok v r) : single c (u ++ x) = .ok v (r ++ x) := by
  unfold single at h ⊢
  simp only [← List.cons_append]
  split at h
  · rename_i hc
    rw [if_pos hc]
    cases hq : qtext (c :: u) with
    | bad k l => rw [hq] at h; cases h
    | ok o t => rw [hq] at h; rw [qtext_app x hq]; injection h with h1 h2; subst h1 h2; rfl
  rename_i hc
  rw [if_neg hc]
  split at h
  · rename_i hc
    rw [if_pos hc]
    cases hq : lit [110, 117, 108, 108] (c :: u) with
    | bad k l => rw [hq] at h; cases h
    | ok o t => rw [hq] at h; rw [lit_app x hq]; injection h with h1 h2; subst h1 h2; rfl
  rename_i hc
  rw [if_neg hc]
  split at h
  · rename_i hc
    rw [if_pos hc]
    cases hq : lit [116, 114, 117, 101] (c :: u) with
    | bad k l => rw [hq] at h; cases h
    | ok o t => rw [hq] at h; rw [lit_app x hq]; injection h with h1 h2; subst h1 h2; rfl
  rename_i hc
  rw [if_neg hc]
  split at h
  · rename_i hc
    rw [if_pos hc]
    cases hq : lit [102, 97, 108, 115, 101] (c :: u) with
    | bad k l => rw [hq] at h; cases h
    | ok o t => rw [hq] at h; rw [lit_app x hq]; injection h with h1 h2; subst h1 h2; rfl
  rename_i hc
  rw [if_neg hc]
  split at h
  · rename_i hc
    rw [if_pos hc]
    cases hq : number (c :: u) with
    | bad k l => rw [hq] at h; cases h
    | ok o t => rw [hq] at h; rw [number_app hx hq]; injection h with h1 h2; subst h1 h2; rfl
  · cases h
theorem map_bad {α β : Type} {f : α → β} {r : R α} {k l : Nat} (h : r.map f = .bad k l) : r = .bad k l := by
  cases r with
  | ok v u => cases h
  | bad c m => injection h with h1 h2; subst h1 h2; rfl
theorem single_code {c : UInt8} {u : List UInt8} {k l : Nat} (h : single c u = .bad k l) : k ≠ 3 := by
  unfold single at h
  split at h
  · have := qtext_bad (map_bad h); omega
  split at h
  · have := lit_bad (map_bad h); omega
  split at h
  · have := lit_bad (map_bad h); omega
  split at h
  · have := lit_bad (map_bad h); omega
  split at h
  · have := number_bad (map_bad h); omega
  · injection h; omega

theorem skip_app (t x : List UInt8) : skip (t ++ x) = if skip t = [] then skip x else skip t ++ x := by
  induction t with
  | nil => simp [skip]
  | cons c t ih =>
    rw [List.cons_append, skip_cons, skip_cons, ih]
    by_cases h : blank c = true
    · simp only [if_pos h]
    · rw [if_neg h, if_neg h, if_neg (by simp)]; rfl

/-- What more bytes behind make of an answer. -/
def Ext (x : List UInt8) (r r' : R Vl) : Prop := (∀ v u, r = .ok v u → r' = .ok v (u ++ x)) ∧ (∀ l, r = .bad 3 l → r' = .bad 3 (l + x.length))
def ExtV (x : List UInt8) (r r' : R Vl) : Prop := (∀ v u, r = .ok v u → r' = .ok v (if u = [] then skip x else u ++ x)) ∧ (∀ l, r = .bad 3 l → r' = .bad 3 (l + x.length))
theorem Ext.bad {x : List UInt8} {k l : Nat} {r' : R Vl} (h : k ≠ 3) : Ext x (.bad k l) r' := ⟨fun _ _ e => (by cases e), fun _ e => (by injection e with e1 e2; exact absurd e1 h)⟩
theorem Ext.trail {x : List UInt8} {r r' : R Vl} (h : Ext x r r') : ExtV x r.trail r'.trail := by
  constructor
  · intro v u e
    cases r with
    | bad k l => cases e
    | ok v0 u0 =>
      injection e with e1 e2
      subst e1 e2
      rw [h.1 _ _ rfl]
      simp only [R.trail, skip_app]
  · intro l e
    cases r with
    | ok v u => cases e
    | bad k l0 =>
      injection e with e1 e2
      subst e1 e2
      rw [h.2 _ rfl]; rfl
theorem value_nil (f d : Nat) : value f d [] = .bad 1 0 := by
  cases f <;> (unfold value; rfl)
theorem elems_nil (f d : Nat) (acc : List Vl) : elems f d [] acc = .bad 1 0 := by
  cases f with
  | zero => unfold elems; rfl
  | succ f => unfold elems; rw [value_nil]
theorem mems_nil (f d : Nat) (acc : List Mem) : mems f d [] acc = .bad 1 0 := by
  cases f with
  | zero => unfold mems; rfl
  | succ f => unfold mems; rfl

theorem ext_all {x : List UInt8} (hx : Stop x) (f : Nat) : (∀ d t, ExtV x (value f d t) (value f d (t ++ x))) ∧ (∀ d u, Ext x (arr f d u) (arr f d (u ++ x))) ∧ (∀ d t acc, Ext x (elems f d t acc) (elems f d (t ++ x) acc)) ∧
    (∀ d u, Ext x (obj f d u) (obj f d (u ++ x))) ∧ (∀ d t acc, Ext x (mems f d t acc) (mems f d (t ++ x) acc)) := by
  induction f with
  | zero =>
    refine ⟨fun d t => ?_, fun d u => ?_, fun d t acc => ?_, fun d u => ?_, fun d t acc => ?_⟩
    · unfold value; exact (Ext.bad (by omega)).trail (r := .bad 1 0) (r' := .bad 1 0)
    · unfold arr; exact Ext.bad (by omega)
    · unfold elems; exact Ext.bad (by omega)
    · unfold obj; exact Ext.bad (by omega)
    · unfold mems; exact Ext.bad (by omega)
  | succ f ih =>
    obtain ⟨iv, ia, ie, io, im⟩ := ih
    refine ⟨fun d t => ?_, fun d u => ?_, fun d t acc => ?_, fun d u => ?_, fun d t acc => ?_⟩
    · unfold value
      apply Ext.trail
      rw [skip_app]
      cases h : skip t with
      | nil => exact Ext.bad (by omega)
      | cons c u =>
        rw [if_neg (by simp), List.cons_append]
        simp only
        by_cases h1 : c = 123
        · rw [if_pos h1, if_pos h1]; exact io d u
        · rw [if_neg h1, if_neg h1]
          by_cases h2 : c = 91
          · rw [if_pos h2, if_pos h2]; exact ia d u
          · rw [if_neg h2, if_neg h2]
            exact ⟨fun v r e => single_app hx e, fun l e => absurd rfl (single_code e)⟩
    · unfold arr
      by_cases hd : d = 32
      · rw [if_pos hd, if_pos hd]
        exact ⟨fun _ _ e => (by cases e), fun l e => by injection e with _ e2; subst e2; rw [List.length_append, Nat.add_right_comm]⟩
      · rw [if_neg hd, if_neg hd, skip_app]
        by_cases hn : skip u = []
        · rw [hn, if_neg (by simp), elems_nil]; exact Ext.bad (by omega)
        · rw [if_neg hn]
          have hh : (skip u ++ x).head? = (skip u).head? := by
            cases hq : skip u with
            | nil => exact absurd hq hn
            | cons c r => rfl
          rw [hh]
          by_cases h9 : (skip u).head? = some 93
          · rw [if_pos h9, if_pos h9]
            refine ⟨fun v r e => ?_, fun l e => by cases e⟩
            injection e with e1 e2
            subst e1 e2
            cases hq : skip u with
            | nil => exact absurd hq hn
            | cons c r => rfl
          · rw [if_neg h9, if_neg h9]; exact ie _ _ _
    · unfold elems
      have h1 := iv d t
      cases hv : value f d t with
      | bad c l =>
        rw [hv] at h1
        by_cases hc : c = 3
        · subst hc
          rw [h1.2 _ rfl]
          exact ⟨fun _ _ e => (by cases e), fun l0 e => by injection e with _ e2; subst e2; rfl⟩
        · exact Ext.bad hc
      | ok v u =>
        rw [hv] at h1
        cases u with
        | nil => exact Ext.bad (by omega)
        | cons c u =>
          rw [h1.1 _ _ rfl, if_neg (by simp), List.cons_append]
          simp only
          by_cases hc : c = 44
          · rw [if_pos hc, if_pos hc]; exact ie _ _ _
          · rw [if_neg hc, if_neg hc]
            by_cases h9 : c = 93
            · rw [if_pos h9, if_pos h9]
              exact ⟨fun v r e => by injection e with e1 e2; subst e1 e2; rfl, fun l e => by cases e⟩
            · rw [if_neg h9]; exact Ext.bad (by omega)
    · unfold obj
      by_cases hd : d = 32
      · rw [if_pos hd, if_pos hd]
        exact ⟨fun _ _ e => (by cases e), fun l e => by injection e with _ e2; subst e2; rw [List.length_append, Nat.add_right_comm]⟩
      · rw [if_neg hd, if_neg hd, skip_app]
        by_cases hn : skip u = []
        · rw [hn, if_neg (by simp), mems_nil]; exact Ext.bad (by omega)
        · rw [if_neg hn]
          have hh : (skip u ++ x).head? = (skip u).head? := by
            cases hq : skip u with
            | nil => exact absurd hq hn
            | cons c r => rfl
          rw [hh]
          by_cases h9 : (skip u).head? = some 125
          · rw [if_pos h9, if_pos h9]
            refine ⟨fun v r e => ?_, fun l e => by cases e⟩
            injection e with e1 e2
            subst e1 e2
            cases hq : skip u with
            | nil => exact absurd hq hn
            | cons c r => rfl
          · rw [if_neg h9, if_neg h9]; exact im _ _ _
    · unfold mems
      rw [skip_app]
      by_cases hn : skip t = []
      · rw [hn]; exact Ext.bad (by omega)
      · rw [if_neg hn]
        cases hq : qtext (skip t) with
        | bad c l => exact Ext.bad (by have := (qtext_bad hq).1; omega)
        | ok key t2 =>
          rw [qtext_app x hq]
          simp only
          by_cases hf : (find acc key).isSome = true
          · rw [if_pos hf]; exact Ext.bad (by omega)
          · rw [if_neg hf, if_neg hf, skip_app]
            cases h3 : skip t2 with
            | nil => exact Ext.bad (by omega)
            | cons c t4 =>
              rw [if_neg (by simp), List.cons_append]
              simp only
              by_cases hc : c = 58
              · rw [if_pos hc, if_pos hc]
                have h1 := iv d t4
                cases hv : value f d t4 with
                | bad c l =>
                  rw [hv] at h1
                  by_cases hc : c = 3
                  · subst hc
                    rw [h1.2 _ rfl]
                    exact ⟨fun _ _ e => (by cases e), fun l0 e => by injection e with _ e2; subst e2; rfl⟩
                  · exact Ext.bad hc
                | ok v u =>
                  rw [hv] at h1
                  cases u with
                  | nil => exact Ext.bad (by omega)
                  | cons c u =>
                    rw [h1.1 _ _ rfl, if_neg (by simp), List.cons_append]
                    simp only
                    by_cases hc : c = 44
                    · rw [if_pos hc, if_pos hc]; exact im _ _ _
                    · rw [if_neg hc, if_neg hc]
                      by_cases h9 : c = 125
                      · rw [if_pos h9, if_pos h9]
                        exact ⟨fun v r e => by injection e with e1 e2; subst e1 e2; rfl, fun l e => by cases e⟩
                      · rw [if_neg h9]; exact Ext.bad (by omega)
              · rw [if_neg hc]; exact Ext.bad (by omega)

/-- One level deeper it is the same, or too deep. -/
def Dp (r r' : R Vl) : Prop := r' = r ∨ ∃ l, r' = .bad 3 l
theorem Dp.refl (r : R Vl) : Dp r r := .inl rfl
theorem Dp.trail {r r' : R Vl} (h : Dp r r') : Dp r.trail r'.trail := by
  rcases h with rfl | ⟨l, rfl⟩
  · exact .refl _
  · exact .inr ⟨l, rfl⟩
theorem deeper (f : Nat) : (∀ d t, d < 32 → Dp (value f d t) (value f (d + 1) t)) ∧ (∀ d u, d < 32 → Dp (arr f d u) (arr f (d + 1) u)) ∧ (∀ d t acc, d < 32 → Dp (elems f d t acc) (elems f (d + 1) t acc)) ∧
    (∀ d u, d < 32 → Dp (obj f d u) (obj f (d + 1) u)) ∧ (∀ d t acc, d < 32 → Dp (mems f d t acc) (mems f (d + 1) t acc)) := by
  induction f with
  | zero => exact ⟨fun _ _ _ => .inl (by unfold value; rfl), fun _ _ _ => .inl (by unfold arr; rfl), fun _ _ _ _ => .inl (by unfold elems; rfl), fun _ _ _ => .inl (by unfold obj; rfl), fun _ _ _ _ => .inl (by unfold mems; rfl)⟩
  | succ f ih =>
    obtain ⟨iv, ia, ie, io, im⟩ := ih
    refine ⟨fun d t hd => ?_, fun d u hd => ?_, fun d t acc hd => ?_, fun d u hd => ?_, fun d t acc hd => ?_⟩
    · unfold value
      apply Dp.trail
      cases skip t with
      | nil => exact .refl _
      | cons c u =>
        simp only
        by_cases h1 : c = 123
        · rw [if_pos h1, if_pos h1]; exact io d u hd
        · rw [if_neg h1, if_neg h1]
          by_cases h2 : c = 91
          · rw [if_pos h2, if_pos h2]; exact ia d u hd
          · rw [if_neg h2, if_neg h2]; exact .refl _
    · unfold arr
      rw [if_neg (show ¬ d = 32 by omega)]
      by_cases h : d + 1 = 32
      · rw [if_pos h]; exact .inr ⟨_, rfl⟩
      · rw [if_neg h]
        split
        · exact .refl _
        · exact ie _ _ _ (by omega)
    · unfold elems
      rcases iv d t hd with h | ⟨l, h⟩
      · rw [h]
        cases value f d t with
        | bad c l => exact .refl _
        | ok v u =>
          cases u with
          | nil => exact .refl _
          | cons c u =>
            simp only
            by_cases hc : c = 44
            · rw [if_pos hc, if_pos hc]; exact ie _ _ _ hd
            · rw [if_neg hc, if_neg hc]; exact .refl _
      · rw [h]; exact .inr ⟨l, rfl⟩
    · unfold obj
      rw [if_neg (show ¬ d = 32 by omega)]
      by_cases h : d + 1 = 32
      · rw [if_pos h]; exact .inr ⟨_, rfl⟩
      · rw [if_neg h]
        split
        · exact .refl _
        · exact im _ _ _ (by omega)
    · unfold mems
      cases qtext (skip t) with
      | bad c l => exact .refl _
      | ok key t2 =>
        simp only
        split
        · exact .refl _
        cases skip t2 with
        | nil => exact .refl _
        | cons c t4 =>
          simp only
          by_cases hc : c = 58
          · rw [if_pos hc, if_pos hc]
            rcases iv d t4 hd with h | ⟨l, h⟩
            · rw [h]
              cases value f d t4 with
              | bad c l => exact .refl _
              | ok v u =>
                cases u with
                | nil => exact .refl _
                | cons c u =>
                  simp only
                  by_cases hc : c = 44
                  · rw [if_pos hc, if_pos hc]; exact im _ _ _ hd
                  · rw [if_neg hc, if_neg hc]; exact .refl _
            · rw [h]; exact .inr ⟨l, rfl⟩
          · rw [if_neg hc, if_neg hc]; exact .refl _

/-- As many rounds as are enough, whatever they are. -/
theorem fuel_all (f : Nat) : (∀ f' d t, d ≤ 32 → 3 * t.length + 1 ≤ f → 3 * t.length + 1 ≤ f' → value f d t = value f' d t) ∧ (∀ f' d u, d ≤ 32 → 3 * u.length + 3 ≤ f → 3 * u.length + 3 ≤ f' → arr f d u = arr f' d u) ∧
    (∀ f' d t acc, d ≤ 32 → 3 * t.length + 2 ≤ f → 3 * t.length + 2 ≤ f' → elems f d t acc = elems f' d t acc) ∧ (∀ f' d u, d ≤ 32 → 3 * u.length + 3 ≤ f → 3 * u.length + 3 ≤ f' → obj f d u = obj f' d u) ∧
    (∀ f' d t acc, d ≤ 32 → 3 * t.length + 2 ≤ f → 3 * t.length + 2 ≤ f' → mems f d t acc = mems f' d t acc) := by
  induction f with
  | zero => exact ⟨fun _ _ _ _ h => by omega, fun _ _ _ _ h => by omega, fun _ _ _ _ _ h => by omega, fun _ _ _ _ h => by omega, fun _ _ _ _ _ h => by omega⟩
  | succ f ih =>
    obtain ⟨iv, ia, ie, io, im⟩ := ih
    refine ⟨fun f' d t hd h1 h2 => ?_, fun f' d u hd h1 h2 => ?_, fun f' d t acc hd h1 h2 => ?_, fun f' d u hd h1 h2 => ?_, fun f' d t acc hd h1 h2 => ?_⟩
    · obtain ⟨f', rfl⟩ : ∃ g, f' = g + 1 := ⟨f' - 1, by omega⟩
      unfold value
      congr 1
      have hs := skip_len t
      cases h : skip t with
      | nil => rfl
      | cons c u =>
        rw [h] at hs
        simp only [List.length_cons] at hs
        simp only
        rw [io f' d u hd (by omega) (by omega), ia f' d u hd (by omega) (by omega)]
    · obtain ⟨f', rfl⟩ : ∃ g, f' = g + 1 := ⟨f' - 1, by omega⟩
      unfold arr
      have hs := skip_len u
      by_cases h : d = 32
      · rw [if_pos h, if_pos h]
      · rw [if_neg h, if_neg h, ie f' (d + 1) (skip u) [] (by omega) (by omega) (by omega)]
    · obtain ⟨f', rfl⟩ : ∃ g, f' = g + 1 := ⟨f' - 1, by omega⟩
      unfold elems
      rw [← iv f' d t hd (by omega) (by omega)]
      have hT := (told f).1 d t hd
      cases h : value f d t with
      | bad c l => rfl
      | ok v u =>
        rw [h] at hT
        have hl := hT.2
        cases u with
        | nil => rfl
        | cons c u =>
          simp only [List.length_cons] at hl
          simp only
          rw [ie f' d u _ hd (by omega) (by omega)]
    · obtain ⟨f', rfl⟩ : ∃ g, f' = g + 1 := ⟨f' - 1, by omega⟩
      unfold obj
      have hs := skip_len u
      by_cases h : d = 32
      · rw [if_pos h, if_pos h]
      · rw [if_neg h, if_neg h, im f' (d + 1) (skip u) [] (by omega) (by omega) (by omega)]
    · obtain ⟨f', rfl⟩ : ∃ g, f' = g + 1 := ⟨f' - 1, by omega⟩
      unfold mems
      have hs := skip_len t
      cases hq : qtext (skip t) with
      | bad c l => rfl
      | ok key t2 =>
        have hq2 := (qtext_ok hq).1
        have hs2 := skip_len t2
        simp only
        split
        · rfl
        cases h3 : skip t2 with
        | nil => rfl
        | cons c t4 =>
          rw [h3] at hs2
          simp only [List.length_cons] at hs2
          simp only
          rw [← iv f' d t4 hd (by omega) (by omega)]
          have hT := (told f).1 d t4 hd
          cases h : value f d t4 with
          | bad c l => rfl
          | ok v u =>
            rw [h] at hT
            have hl := hT.2
            cases u with
            | nil => rfl
            | cons c u =>
              simp only [List.length_cons] at hl
              simp only
              rw [im f' d u _ hd (by omega) (by omega)]

/-- The whole text's answer of a value's. -/
def fin : R Vl → R Vl
  | .bad c l => .bad c l
  | .ok v [] => .ok v []
  | .ok _ (c :: u) => .bad 1 (c :: u).length
theorem parse_fuel {s : List UInt8} (hs : s.length ≤ 20000) (f : Nat) (hf : 3 * s.length + 1 ≤ f) : parse s = fin (value f 0 s) := by
  unfold parse
  rw [if_neg (by omega), (fuel_all (3 * s.length + 1)).1 f 0 s (by omega) (Nat.le_refl _) hf]
  cases value f 0 s with
  | bad c l => rfl
  | ok v u => cases u <;> rfl
theorem fin_ok {r : R Vl} {v : Vl} {u : List UInt8} (h : fin r = .ok v u) : r = .ok v [] ∧ u = [] := by
  cases r with
  | bad c l => cases h
  | ok v' u' =>
    cases u' with
    | nil => injection h with h1 h2; subst h1 h2; exact ⟨rfl, rfl⟩
    | cons c u => cases h
theorem value_ahead (f d : Nat) {b : List UInt8} (hb : ∀ c ∈ b, blank c = true) (t : List UInt8) : value f d (b ++ t) = value f d t := by
  have hs : skip b = [] := by
    induction b with
    | nil => rfl
    | cons c b ih => rw [skip_cons, if_pos (hb c (by simp)), ih (fun x hx => hb x (by simp [hx]))]
  cases f with
  | zero => unfold value; rfl
  | succ f => unfold value; rw [skip_app, if_pos hs]
theorem skip_blank {b : List UInt8} (hb : ∀ c ∈ b, blank c = true) : skip b = [] := by
  induction b with
  | nil => rfl
  | cons c b ih => rw [skip_cons, if_pos (hb c (by simp)), ih (fun x hx => hb x (by simp [hx]))]
theorem stop_blank {b : List UInt8} (hb : ∀ c ∈ b, blank c = true) : Stop b := by
  intro c hc
  have h := hb c (List.mem_of_head? hc)
  simp only [blank, Bool.or_eq_true, decide_eq_true_eq] at h
  rcases h with ((rfl | rfl) | rfl) | rfl <;> decide

/-- Blanks ahead change nothing but how many bytes there are. -/
theorem parse_ahead {b s : List UInt8} (hb : ∀ c ∈ b, blank c = true) (hl : (b ++ s).length ≤ 20000) : parse (b ++ s) = parse s := by
  have h2 : s.length ≤ (b ++ s).length := by simp
  rw [parse_fuel hl (3 * (b ++ s).length + 1) (Nat.le_refl _), parse_fuel (by omega) (3 * (b ++ s).length + 1) (by omega), value_ahead _ _ hb]
theorem parse_value {s : List UInt8} {v : Vl} {u : List UInt8} (h : parse s = .ok v u) (f : Nat) (hf : 3 * s.length + 1 ≤ f) : value f 0 s = .ok v [] ∧ u = [] ∧ s.length ≤ 20000 := by
  have hs : s.length ≤ 20000 := by
    rcases Nat.lt_or_ge 20000 s.length with h1 | h1
    · unfold parse at h; rw [if_pos h1] at h; cases h
    · exact h1
  rw [parse_fuel hs f hf] at h
  obtain ⟨h1, h2⟩ := fin_ok h
  exact ⟨h1, h2, hs⟩
/-- Blanks behind change nothing. -/
theorem parse_behind {b s : List UInt8} {v : Vl} {u : List UInt8} (hb : ∀ c ∈ b, blank c = true) (hl : (s ++ b).length ≤ 20000) (h : parse s = .ok v u) : parse (s ++ b) = .ok v [] := by
  have h2 : s.length ≤ (s ++ b).length := by simp
  obtain ⟨h1, _, _⟩ := parse_value h (3 * (s ++ b).length + 1) (by omega)
  rw [parse_fuel hl (3 * (s ++ b).length + 1) (Nat.le_refl _)]
  have := ((ext_all (stop_blank hb) (3 * (s ++ b).length + 1)).1 0 s).1 _ _ h1
  rw [this, if_pos rfl, skip_blank hb]
  rfl

/-- What stands behind a value that is whole, one level deeper. -/
theorem value_within {s x : List UInt8} {v : Vl} {f : Nat} (hx : Stop x) (h : value f 0 s = .ok v []) (hk : skip x = x) :
    (value f 1 s = .ok v [] ∧ value f 1 (s ++ x) = .ok v x) ∨ ∃ l, value f 1 s = .bad 3 l ∧ value f 1 (s ++ x) = .bad 3 (l + x.length) := by
  have he := (ext_all hx f).1 1 s
  rcases (deeper f).1 0 s (by omega) with h1 | ⟨l, h1⟩
  · rw [h] at h1
    refine .inl ⟨h1, ?_⟩
    rw [he.1 _ _ h1, if_pos rfl, hk]
  · exact .inr ⟨l, h1, he.2 _ h1⟩
theorem value_first {f d : Nat} {s : List UInt8} {v : Vl} {u : List UInt8} (h : value f d s = .ok v u) : skip s ≠ [] ∧ (skip s).head? ≠ some 93 ∧ (skip s).head? ≠ some 125 := by
  cases f with
  | zero => unfold value at h; cases h
  | succ f =>
    unfold value at h
    cases hq : skip s with
    | nil => rw [hq] at h; cases h
    | cons c t =>
      rw [hq] at h
      refine ⟨by simp, ?_, ?_⟩
      · intro e; cases e; simp [single, R.trail, Nm.dig] at h
      · intro e; cases e; simp [single, R.trail, Nm.dig] at h
theorem value_skip (f d : Nat) (s : List UInt8) : value f d (skip s) = value f d s := by
  cases f with
  | zero => unfold value; rfl
  | succ f => unfold value; rw [skip_skip]

/-- Two texts in brackets. -/
theorem parse_list {s t : List UInt8} {a b : Vl} {u u' : List UInt8} (hs : parse s = .ok a u) (ht : parse t = .ok b u') (f : Nat) (hf : 3 * (s.length + t.length) + 40 ≤ f) (hl : s.length + t.length ≤ 10000) :
    ((∃ l, value f 1 s = .bad 3 l) ∨ (∃ l, value f 1 t = .bad 3 l) → ∃ l, parse (91 :: (s ++ 44 :: (t ++ [93]))) = .bad 3 l) ∧
    (¬ (∃ l, value f 1 s = .bad 3 l) → ¬ (∃ l, value f 1 t = .bad 3 l) → parse (91 :: (s ++ 44 :: (t ++ [93]))) = .ok (mkA [a, b]) []) := by
  have hlen : (91 :: (s ++ 44 :: (t ++ [93]))).length = s.length + t.length + 3 := by simp; omega
  have hfu : ∀ f', 3 * (s.length + t.length) + 1 ≤ f' → value f' 1 s = value f 1 s ∧ value f' 1 t = value f 1 t := fun f' h' =>
    ⟨(fuel_all f').1 f 1 s (by omega) (by omega) (by omega), (fuel_all f').1 f 1 t (by omega) (by omega) (by omega)⟩
  have hv : ∀ f', 3 * (s.length + t.length) + 1 ≤ f' → value f' 0 s = .ok a [] ∧ value f' 0 t = .ok b [] := fun f' h' =>
    ⟨(parse_value hs f' (by omega)).1, (parse_value ht f' (by omega)).1⟩
  have hx1 : Stop (44 :: (t ++ [93])) := by intro c hc; cases hc; decide
  have hx2 : Stop [93] := by intro c hc; cases hc; decide
  obtain ⟨n1, n2, _⟩ := value_first (hv f (by omega)).1
  rw [parse_fuel (by omega) (f + 4) (by omega)]
  have e0 : value (f + 4) 0 (91 :: (s ++ 44 :: (t ++ [93]))) = (elems (f + 2) 1 (skip s ++ 44 :: (t ++ [93])) []).trail := by
    unfold value
    rw [show skip (91 :: (s ++ 44 :: (t ++ [93]))) = 91 :: (s ++ 44 :: (t ++ [93])) from rfl]
    simp only
    rw [if_neg (by decide)]
    simp only [if_true]
    unfold arr
    rw [if_neg (by decide), skip_app, if_neg n1, if_neg]
    cases hq : skip s with
    | nil => exact absurd hq n1
    | cons c r => rw [hq] at n2; simpa using n2
  rw [e0]
  have e1 : value (f + 1) 1 (skip s ++ 44 :: (t ++ [93])) = value (f + 1) 1 (s ++ 44 :: (t ++ [93])) := by
    rw [← value_skip _ _ (s ++ 44 :: (t ++ [93])), skip_app, if_neg n1]
  rw [← (hfu (f + 1) (by omega)).1, ← (hfu f (by omega)).2]
  rw [elems, e1]
  rcases value_within hx1 (hv (f + 1) (by omega)).1 rfl with ⟨k1, k2⟩ | ⟨l, k1, k2⟩
  · rw [k1, k2]
    simp only [if_true]
    rw [elems]
    rcases value_within hx2 (hv f (by omega)).2 rfl with ⟨k3, k4⟩ | ⟨l, k3, k4⟩
    · rw [k3, k4]
      refine ⟨fun h => ?_, fun _ _ => rfl⟩
      rcases h with ⟨l, h⟩ | ⟨l, h⟩ <;> cases h
    · rw [k3, k4]
      exact ⟨fun _ => ⟨_, rfl⟩, fun _ h => absurd ⟨_, rfl⟩ h⟩
  · rw [k1, k2]
    exact ⟨fun _ => ⟨_, rfl⟩, fun h => absurd ⟨_, rfl⟩ h⟩

/-- Two texts as members. -/
theorem parse_pair {s t : List UInt8} {a b : Vl} {u u' : List UInt8} (hs : parse s = .ok a u) (ht : parse t = .ok b u') (f : Nat) (hf : 3 * (s.length + t.length) + 40 ≤ f) (hl : s.length + t.length ≤ 10000) :
    ((∃ l, value f 1 s = .bad 3 l) ∨ (∃ l, value f 1 t = .bad 3 l) → ∃ l, parse ([123, 34, 121, 34, 58] ++ (s ++ (([44, 34, 120, 34, 58] : List UInt8) ++ (t ++ [125])))) = .bad 3 l) ∧
    (¬ (∃ l, value f 1 s = .bad 3 l) → ¬ (∃ l, value f 1 t = .bad 3 l) → parse ([123, 34, 121, 34, 58] ++ (s ++ (([44, 34, 120, 34, 58] : List UInt8) ++ (t ++ [125])))) = .ok (mkO [([120], b), ([121], a)]) []) := by
  have hlen : ([123, 34, 121, 34, 58] ++ (s ++ (([44, 34, 120, 34, 58] : List UInt8) ++ (t ++ [125])))).length = s.length + t.length + 11 := by simp; omega
  have hfu : ∀ f', 3 * (s.length + t.length) + 1 ≤ f' → value f' 1 s = value f 1 s ∧ value f' 1 t = value f 1 t := fun f' h' =>
    ⟨(fuel_all f').1 f 1 s (by omega) (by omega) (by omega), (fuel_all f').1 f 1 t (by omega) (by omega) (by omega)⟩
  have hv : ∀ f', 3 * (s.length + t.length) + 1 ≤ f' → value f' 0 s = .ok a [] ∧ value f' 0 t = .ok b [] := fun f' h' =>
    ⟨(parse_value hs f' (by omega)).1, (parse_value ht f' (by omega)).1⟩
  have hx1 : Stop (([44, 34, 120, 34, 58] : List UInt8) ++ (t ++ [125])) := by intro c hc; cases hc; decide
  have hx2 : Stop [125] := by intro c hc; cases hc; decide
  have q1 : ∀ r : List UInt8, qtext (34 :: 121 :: 34 :: r) = .ok [121] r := fun r => by
    have := qtext_app (t := [34, 121, 34]) (o := [121]) (u := []) r rfl
    simpa using this
  have q2 : ∀ r : List UInt8, qtext (34 :: 120 :: 34 :: r) = .ok [120] r := fun r => by
    have := qtext_app (t := [34, 120, 34]) (o := [120]) (u := []) r rfl
    simpa using this
  rw [parse_fuel (by rw [hlen]; omega) (f + 4) (by rw [hlen]; omega)]
  have e0 : value (f + 4) 0 ([123, 34, 121, 34, 58] ++ (s ++ (([44, 34, 120, 34, 58] : List UInt8) ++ (t ++ [125])))) = (mems (f + 2) 1 (34 :: 121 :: 34 :: 58 :: (s ++ (([44, 34, 120, 34, 58] : List UInt8) ++ (t ++ [125])))) []).trail := by
    unfold value
    rw [show skip ([123, 34, 121, 34, 58] ++ (s ++ (([44, 34, 120, 34, 58] : List UInt8) ++ (t ++ [125])))) = 123 :: (34 :: 121 :: 34 :: 58 :: (s ++ (([44, 34, 120, 34, 58] : List UInt8) ++ (t ++ [125])))) from rfl]
    simp only [if_true]
    unfold obj
    rw [if_neg (by decide), show skip (34 :: 121 :: 34 :: 58 :: (s ++ (([44, 34, 120, 34, 58] : List UInt8) ++ (t ++ [125])))) = 34 :: 121 :: 34 :: 58 :: (s ++ (([44, 34, 120, 34, 58] : List UInt8) ++ (t ++ [125]))) from rfl, if_neg (by simp)]
  rw [e0]
  rw [← (hfu (f + 1) (by omega)).1, ← (hfu f (by omega)).2]
  rw [mems, show skip (34 :: 121 :: 34 :: 58 :: (s ++ (([44, 34, 120, 34, 58] : List UInt8) ++ (t ++ [125])))) = 34 :: 121 :: 34 :: 58 :: (s ++ (([44, 34, 120, 34, 58] : List UInt8) ++ (t ++ [125]))) from rfl, q1]
  simp only
  rw [if_neg (by simp [find]), show skip (58 :: (s ++ (([44, 34, 120, 34, 58] : List UInt8) ++ (t ++ [125])))) = 58 :: (s ++ (([44, 34, 120, 34, 58] : List UInt8) ++ (t ++ [125]))) from rfl]
  simp only [if_true]
  rcases value_within hx1 (hv (f + 1) (by omega)).1 rfl with ⟨k1, k2⟩ | ⟨l, k1, k2⟩
  · rw [k1, k2]
    simp only [List.cons_append, List.nil_append, if_true]
    rw [mems, show skip (34 :: 120 :: 34 :: 58 :: (t ++ [125])) = 34 :: 120 :: 34 :: 58 :: (t ++ [125]) from rfl, q2]
    simp only
    rw [if_neg (by simp [find, ins]), show skip (58 :: (t ++ [125])) = 58 :: (t ++ [125]) from rfl]
    simp only [if_true]
    rcases value_within hx2 (hv f (by omega)).2 rfl with ⟨k3, k4⟩ | ⟨l, k3, k4⟩
    · rw [k3, k4]
      refine ⟨fun h => ?_, fun _ _ => ?_⟩
      · rcases h with ⟨l, h⟩ | ⟨l, h⟩ <;> cases h
      · have hi : ins (ins [] [121] a) [120] b = [([120], b), ([121], a)] := by simp [ins, less, Lib.compareBytes]
        simp only [hi]; rfl
    · rw [k3, k4]
      exact ⟨fun _ => ⟨_, rfl⟩, fun _ h => absurd ⟨_, rfl⟩ h⟩
  · rw [k1, k2]
    exact ⟨fun _ => ⟨_, rfl⟩, fun h => absurd ⟨_, rfl⟩ h⟩

end Go.Proofs.YtfolfibembplbaaGreatDoor.Ps

/- Plain mathematics of layer 4 (parse), fourth part: the program's lists: elements and members in the order in which they stand. -/
namespace Go.Proofs.YtfolfibembplbaaGreatDoor.Ps
open Js

/-- What value reads, but for the blanks behind. -/
def core (f d : Nat) (t : List UInt8) : R Vl :=
  match skip t with
  | [] => .bad 1 0
  | c :: u => if c = 123 then obj f d u else if c = 91 then arr f d u else single c u
theorem core_value (f d : Nat) (t : List UInt8) : value (f + 1) d t = (core f d t).trail := by
  unfold value core; rfl

theorem core_told (f d : Nat) (t : List UInt8) (hd : d ≤ 32) : Told d t.length (core f d t) := by
  unfold core
  have hs := skip_len t
  cases h : skip t with
  | nil => exact ⟨by omega, by omega, Nat.zero_le _⟩
  | cons c u =>
    rw [h] at hs
    simp only
    refine Told.mono (n := (c :: u).length) ?_ hs
    split
    · exact (told f).2.2.2.1 d u hd
    split
    · exact (told f).2.1 d u hd
    · exact single_told d hd c u
/-- What an element is read as, with the rounds that elems grants it. -/
def itemV (f d : Nat) (t : List UInt8) : R Vl :=
  match f with
  | 0 => .bad 1 0
  | f + 1 => core f d t
theorem itemV_trail (f d : Nat) (t : List UInt8) : value f d t = (itemV f d t).trail := by
  cases f with
  | zero => unfold value; rfl
  | succ f => exact core_value f d t

theorem itemV_told (f d : Nat) (t : List UInt8) (hd : d ≤ 32) : Told d t.length (itemV f d t) := by
  cases f with
  | zero => exact ⟨by omega, by omega, Nat.zero_le _⟩
  | succ f => exact core_told f d t hd

/-- What stands behind an element. -/
def tailL {α : Type} (rec : List UInt8 → List α → R (List α)) (e : UInt8) (u : List UInt8) (acc : List α) : R (List α) :=
  match skip u with
  | [] => .bad 1 0
  | c :: r => if c = 44 then rec r acc else if c = e then .ok acc r else .bad 1 (c :: r).length
/-- Elements up to the list's end. -/
def listL {α : Type} (item : Nat → Nat → List UInt8 → List α → R α) (e : UInt8) : Nat → Nat → List UInt8 → List α → R (List α)
  | 0, _, _, _ => .bad 1 0
  | f + 1, d, t, acc => match item f d t acc with
    | .bad c l => .bad c l
    | .ok v u => tailL (listL item e f d) e u (acc ++ [v])
/-- What an opened bracket begins. -/
def itemsR {α : Type} (item : Nat → Nat → List UInt8 → List α → R α) (e : UInt8) (f d : Nat) (u : List UInt8) : R (List α) :=
  if d = 32 then .bad 3 (u.length + 1) else if (skip u).head? = some e then .ok [] (skip u).tail else listL item e f (d + 1) (skip u) []

/-- One element, whatever came ahead. -/
def oneV (f d : Nat) (t : List UInt8) (_ : List Vl) : R Vl := itemV f d t
theorem elems_list (f : Nat) : ∀ d t acc, elems f d t acc = (listL oneV 93 f d t acc).map mkA := by
  induction f with
  | zero => intro d t acc; unfold elems; rfl
  | succ f ih =>
    intro d t acc
    unfold elems
    rw [itemV_trail, listL, oneV]
    cases itemV f d t with
    | bad c l => rfl
    | ok v u =>
      simp only [R.trail, tailL]
      cases skip u with
      | nil => rfl
      | cons c r =>
        simp only
        by_cases hc : c = 44
        · rw [if_pos hc, if_pos hc, ih]
        · rw [if_neg hc, if_neg hc]
          by_cases h9 : c = 93
          · rw [if_pos h9, if_pos h9]; rfl
          · rw [if_neg h9, if_neg h9]; rfl
theorem arr_items (f d : Nat) (u : List UInt8) : arr (f + 1) d u = (itemsR oneV 93 f d u).map mkA := by
  unfold arr itemsR
  by_cases h : d = 32
  · rw [if_pos h, if_pos h]; rfl
  · rw [if_neg h, if_neg h]
    by_cases h9 : (skip u).head? = some 93
    · rw [if_pos h9, if_pos h9]; rfl
    · rw [if_neg h9, if_neg h9, elems_list]

/-- Members by rising keys. -/
def sortM (acc : List Mem) : List Mem := acc.foldl (fun m p => ins m p.1 p.2) []
theorem sortM_snoc (acc : List Mem) (k : List UInt8) (v : Vl) : sortM (acc ++ [(k, v)]) = ins (sortM acc) k v := by
  unfold sortM; rw [List.foldl_append]; rfl
theorem ins_perm (m : List Mem) (k : List UInt8) (v : Vl) : (ins m k v).Perm ((k, v) :: m) := by
  have hm : m.takeWhile (less k) ++ m.dropWhile (less k) = m := List.takeWhile_append_dropWhile
  unfold ins
  refine List.perm_middle.trans ?_
  rw [hm]
theorem snoc_ind {α : Type} {P : List α → Prop} (h0 : P []) (h1 : ∀ l a, P l → P (l ++ [a])) (l : List α) : P l := by
  have h : ∀ r : List α, P r.reverse := by
    intro r
    induction r with
    | nil => exact h0
    | cons a r ih => rw [List.reverse_cons]; exact h1 _ _ ih
  have := h l.reverse
  rwa [List.reverse_reverse] at this
theorem sortM_perm (acc : List Mem) : (sortM acc).Perm acc := by
  refine snoc_ind (P := fun acc => (sortM acc).Perm acc) ?_ ?_ acc
  · exact .refl _
  · rintro acc ⟨k, v⟩ ih
    rw [sortM_snoc]
    exact (ins_perm _ k v).trans ((List.Perm.cons _ ih).trans (List.perm_append_comm (l₁ := [(k, v)]) (l₂ := acc)))
/-- Has a member that key? -/
def has (acc : List Mem) (key : List UInt8) : Bool := acc.any fun p => decide (p.1 = key)
theorem find_has (m : List Mem) (key : List UInt8) : (find m key).isSome = has m key := by
  unfold find has
  rw [Option.isSome_map]
  induction m with
  | nil => rfl
  | cons p m ih =>
    by_cases h : p.1 = key
    · simp [h]
    · simp [h, ih]
theorem has_perm {a b : List Mem} (h : a.Perm b) (key : List UInt8) : has a key = has b key := by
  unfold has
  rw [Bool.eq_iff_iff, List.any_eq_true, List.any_eq_true]
  constructor
  · rintro ⟨p, h1, h2⟩; exact ⟨p, h.mem_iff.1 h1, h2⟩
  · rintro ⟨p, h1, h2⟩; exact ⟨p, h.mem_iff.2 h1, h2⟩
theorem sort_has (acc : List Mem) (key : List UInt8) : (find (sortM acc) key).isSome = has acc key := by
  rw [find_has, has_perm (sortM_perm acc)]

/-- What a member is read as. -/
def oneM (f d : Nat) (t : List UInt8) (acc : List Mem) : R Mem :=
  match qtext (skip t) with
  | .bad c l => .bad c l
  | .ok key t2 => if has acc key = true then .bad 4 (skip t).length else match skip t2 with
    | [] => .bad 1 0
    | c :: t4 => if c = 58 then (itemV f d t4).map (fun x => (key, x)) else .bad 1 (c :: t4).length
theorem mems_list (f : Nat) : ∀ d t acc, mems f d t (sortM acc) = (listL oneM 125 f d t acc).map (fun m => mkO (sortM m)) := by
  induction f with
  | zero => intro d t acc; unfold mems; rfl
  | succ f ih =>
    intro d t acc
    unfold mems
    rw [listL, oneM]
    cases qtext (skip t) with
    | bad c l => rfl
    | ok key t2 =>
      simp only [sort_has]
      by_cases hh : has acc key = true
      · rw [if_pos hh, if_pos hh]; rfl
      · rw [if_neg hh, if_neg hh]
        cases skip t2 with
        | nil => rfl
        | cons c t4 =>
          simp only
          by_cases h58 : c = 58
          · rw [if_pos h58, if_pos h58, itemV_trail]
            cases itemV f d t4 with
            | bad c l => rfl
            | ok v u =>
              simp only [R.trail, R.map, tailL]
              cases skip u with
              | nil => rfl
              | cons c r =>
                simp only
                rw [← sortM_snoc]
                by_cases hc : c = 44
                · rw [if_pos hc, if_pos hc, ih]; rfl
                · rw [if_neg hc, if_neg hc]
                  by_cases h9 : c = 125
                  · rw [if_pos h9, if_pos h9]
                  · rw [if_neg h9, if_neg h9]
          · rw [if_neg h58, if_neg h58]; rfl
theorem obj_items (f d : Nat) (u : List UInt8) : obj (f + 1) d u = (itemsR oneM 125 f d u).map (fun m => mkO (sortM m)) := by
  unfold obj itemsR
  by_cases h : d = 32
  · rw [if_pos h, if_pos h]; rfl
  · rw [if_neg h, if_neg h]
    by_cases h9 : (skip u).head? = some 125
    · rw [if_pos h9, if_pos h9]; rfl
    · rw [if_neg h9, if_neg h9, ← mems_list]; rfl

/-- No two members have one key. -/
def Apart (acc : List Mem) : Prop := acc.Pairwise fun p q => p.1 ≠ q.1
theorem apart_snoc {acc : List Mem} {p : Mem} (h : Apart acc) (hn : has acc p.1 = false) : Apart (acc ++ [p]) := by
  unfold Apart
  rw [List.pairwise_append]
  refine ⟨h, List.pairwise_singleton _ _, fun q hq r hr => ?_⟩
  rw [List.mem_singleton] at hr
  subst hr
  intro e
  have : has acc r.1 = true := by unfold has; rw [List.any_eq_true]; exact ⟨q, hq, by simpa using e⟩
  rw [hn] at this; cases this
theorem sort_rises {acc : List Mem} (h : Apart acc) : rises ((sortM acc).map (·.1)) = true := by
  revert h
  refine snoc_ind (P := fun acc => Apart acc → rises ((sortM acc).map (·.1)) = true) ?_ ?_ acc
  · intro _; rfl
  · rintro acc ⟨k, v⟩ ih h
    unfold Apart at h
    rw [List.pairwise_append] at h
    rw [sortM_snoc]
    refine ins_rises v (ih h.1) fun q hq => ?_
    exact h.2.2 q ((sortM_perm acc).mem_iff.1 hq) (k, v) (by simp)
/-- There is one order in which keys rise. -/
theorem rises_unique : ∀ {a b : List Mem}, a.Perm b → rises (a.map (·.1)) = true → rises (b.map (·.1)) = true → a = b := by
  intro a b hp ha hb
  rw [rises_iff, List.pairwise_map] at ha hb
  refine List.Perm.eq_of_pairwise (le := fun p q : Mem => Lib.compareBytes p.1 q.1 = -1) ?_ ha hb hp
  intro p q _ _ h1 h2
  have := less_trans h1 h2
  rw [Nm.bytes_self] at this
  cases this

end Go.Proofs.YtfolfibembplbaaGreatDoor.Ps


