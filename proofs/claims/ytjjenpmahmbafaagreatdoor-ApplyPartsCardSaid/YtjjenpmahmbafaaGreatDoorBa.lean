/- Ba: Ba Bg, in one text. -/
import Derived.Test.YtjjenpmahmbafaaGreatDoorAa
namespace Go.Proofs.YtjjenpmahmbafaaGreatDoor.Ap
open Js Pt Oq Ed

def doOp (v : Vl) (o : Opn) : Ch :=
  if o.op ≤ 3 then edit o.op o.path v o.v
  else if o.op = 4 ∧ o.src.length < o.path.length ∧ o.path.take o.src.length = o.src then .bad 9
  else match get v (if o.op = 6 then o.path else o.src) with
    | none => .bad 6
    | some u =>
      if o.op = 6 then (if u.same o.v = true then .ok v else .bad 8)
      else if o.op = 4 then (if o.path = o.src then .ok v else match edit 2 o.src v Ps.mkN with
        | .ok r => edit 1 o.path r u
        | .bad c => .bad c)
      else edit 1 o.path v u
def done (v : Vl) (o : Opn) : Ch :=
  match doOp v o with
  | .bad c => .bad c
  | .ok u => if 3000 < u.size then .bad 5 else if 32 < u.depth then .bad 3 else .ok u
inductive Rs where
  | ok (v : Vl)
  | bad (c i : Nat)
def applyAt : Vl → List Opn → Nat → Rs
  | v, [], _ => .ok v
  | v, o :: l, i => match done v o with
    | .ok u => applyAt u l (i + 1)
    | .bad c => .bad c i

theorem applyAt_cons (v : Vl) (o : Opn) (l : List Opn) (i : Nat) : applyAt v (o :: l) i = match done v o with
    | .ok u => applyAt u l (i + 1)
    | .bad c => .bad c i := rfl
theorem done_ok {v u : Vl} {o : Opn} (h : doOp v o = .ok u) (h1 : u.size ≤ 3000) (h2 : u.depth ≤ 32) : done v o = .ok u := by
  unfold done; rw [h]; simp only; rw [if_neg (by omega), if_neg (by omega)]
theorem done_inv {v u : Vl} {o : Opn} (h : done v o = .ok u) : doOp v o = .ok u ∧ u.size ≤ 3000 ∧ u.depth ≤ 32 := by
  unfold done at h
  cases hd : doOp v o with
  | bad c => rw [hd] at h; cases h
  | ok w =>
    rw [hd] at h
    simp only at h
    split at h
    · cases h
    · split at h
      · cases h
      · injection h with h; subst h; exact ⟨rfl, by omega, by omega⟩
theorem applyAt_append (a b : List Opn) : ∀ (v : Vl) (i : Nat), applyAt v (a ++ b) i = match applyAt v a i with
    | .ok u => applyAt u b (i + a.length)
    | .bad c j => .bad c j := by
  induction a with
  | nil => intro v i; rfl
  | cons o a ih =>
    intro v i
    rw [List.cons_append, applyAt_cons, applyAt_cons]
    cases hd : done v o with
    | bad c => rfl
    | ok u =>
      simp only
      rw [ih u (i + 1), List.length_cons, show i + 1 + a.length = i + (a.length + 1) by omega]
theorem applyAt_shift (l : List Opn) : ∀ (v : Vl) (i k : Nat), applyAt v l (i + k) = match applyAt v l i with
    | .ok u => .ok u
    | .bad c j => .bad c (j + k) := by
  induction l with
  | nil => intro v i k; rfl
  | cons o l ih =>
    intro v i k
    rw [applyAt_cons, applyAt_cons]
    cases hd : done v o with
    | bad c => rfl
    | ok u =>
      simp only
      rw [show i + k + 1 = i + 1 + k by omega, ih u (i + 1) k]
theorem apply_parts (v u : Vl) (l : List Opn) (k : Nat) (hk : k ≤ l.length) (h : applyAt v (l.take k) 0 = .ok u) : applyAt v l 0 = match applyAt u (l.drop k) 0 with
    | .ok w => .ok w
    | .bad c j => .bad c (j + k) := by
  have h1 := applyAt_append (l.take k) (l.drop k) v 0
  rw [List.take_append_drop, h] at h1
  simp only at h1
  rw [h1, List.length_take, Nat.min_eq_left hk, applyAt_shift (l.drop k) u 0 k]
theorem apply_begin {v : Vl} {l : List Opn} {k c j : Nat} (h : applyAt v (l.take k) 0 = .bad c j) : applyAt v l 0 = .bad c j := by
  have h1 := applyAt_append (l.take k) (l.drop k) v 0
  rw [List.take_append_drop, h] at h1
  exact h1

theorem kid_size {v y : Vl} {nm : List UInt8} (h : kid v nm = some y) : y.size ≤ v.size := by
  obtain ⟨k, b, n, s, l, m⟩ := v
  rw [kid_mk] at h
  split at h
  · split at h
    · have := size_el (List.mem_of_getElem? h)
      simp only [Vl.size]; omega
    · cases h
  · obtain ⟨b', n', s', l', m', p, e, hp, rfl⟩ := find_in h
    injection e with _ _ _ _ _ e
    subst e
    have := size_mem hp
    simp only [Vl.size]; omega
theorem get_nil (v : Vl) : get v [] = some v := by
  obtain ⟨k, b, n, s, l, m⟩ := v
  rfl
theorem get_neat (ns : List (List UInt8)) : ∀ {v u : Vl}, neat v = true → get v ns = some u → neat u = true ∧ u.size ≤ v.size := by
  induction ns with
  | nil => intro v u hv h; rw [get_nil] at h; injection h with h; subst h; exact ⟨hv, Nat.le_refl _⟩
  | cons nm ns ih =>
    intro v u hv h
    rw [get_kid] at h
    cases hk : kid v nm with
    | none => rw [hk] at h; cases h
    | some y =>
      rw [hk] at h
      obtain ⟨h1, h2⟩ := ih (kid_neat hv hk) h
      have := kid_size hk
      exact ⟨h1, by omega⟩
theorem rep_kid {v u : Vl} {nm : List UInt8} (hv : neat v = true) (h : kid v nm = some u) : one 3 nm v u = .ok v := by
  obtain ⟨k, b, n, s, l, m⟩ := v
  obtain ⟨h4, h5, _, _, hr⟩ := (neat_iff _ _ _ _ _ _).1 hv
  rw [kid_mk] at h
  rw [one_mk]
  split at h
  · rename_i hk
    rw [if_pos hk]
    split at h
    · rename_i hi
      have hd : decide ((3 : Nat) = 1) = false := rfl
      rw [hd, if_pos hi]
      have hm : m = [] := h5 (by omega)
      subst hm
      obtain ⟨hlt, hg⟩ := List.getElem?_eq_some_iff.1 h
      unfold inL
      rw [if_neg (by decide), if_neg (by decide), ← hg, List.set_getElem_self]
    · cases h
  · rename_i hk
    rw [find_five] at h
    split at h
    · rename_i h5k
      rw [if_neg hk, if_pos h5k, if_pos (.inr (by rw [h]; rfl)), if_neg (by decide)]
      obtain ⟨a, c, rfl, ha, hc⟩ := Ed.part hr h
      rw [put_part u ha hc, h4 hk]
    · cases h
theorem rep_there (ns : List (List UInt8)) : ∀ {v u : Vl}, neat v = true → get v ns = some u → edit 3 ns v u = .ok v := by
  induction ns with
  | nil =>
    intro v u _ h
    rw [get_nil] at h; injection h with h; subst h
    rfl
  | cons nm ns ih =>
    intro v u hv h
    rw [get_kid] at h
    cases hk : kid v nm with
    | none => rw [hk] at h; cases h
    | some y =>
      rw [hk] at h
      have h : get y ns = some u := h
      cases ns with
      | nil =>
        rw [get_nil] at h; injection h with h; subst h
        exact rep_kid hv hk
      | cons a r =>
        rw [edit_more 3 nm (by simp), under_kid, hk]
        simp only
        rw [ih (kid_neat hv hk) h]
        simp only
        rw [setKid_same hv hk]
theorem apply_there {v u : Vl} {ns : List (List UInt8)} (hv : neat v = true) (hs : v.size ≤ 3000) (hd : v.depth ≤ 32) (h : get v ns = some u) : applyAt v [⟨6, ns, [], u⟩, ⟨4, ns, ns, Ps.mkN⟩, ⟨3, ns, [], u⟩] 0 = .ok v := by
  have h1 : doOp v ⟨6, ns, [], u⟩ = .ok v := by
    unfold doOp
    simp only
    rw [if_neg (by decide), if_neg (by simp)]
    simp only [if_true, h, same_refl]
  have h2 : doOp v ⟨4, ns, ns, Ps.mkN⟩ = .ok v := by
    unfold doOp
    simp only
    rw [if_neg (by decide), if_neg (by simp)]
    simp [h]
  have h3 : doOp v ⟨3, ns, [], u⟩ = .ok v := by
    unfold doOp
    simp only
    rw [if_pos (by decide)]
    exact rep_there ns hv h
  rw [applyAt_cons, done_ok h1 hs hd]
  simp only
  rw [applyAt_cons, done_ok h2 hs hd]
  simp only
  rw [applyAt_cons, done_ok h3 hs hd]
  rfl

structure OpFit (o : Opn) : Prop where
  op : 1 ≤ o.op ∧ o.op ≤ 6
  neat : neat o.v = true
  size : o.v.size ≤ 2000
  path : (text o.path).length ≤ 100000
  src : (text o.src).length ≤ 100000
theorem ptr_text {v : Vl} {key : List UInt8} {l : List (List UInt8)} (hv : Fit v) (h : ptrOf v key = some l) : (text l).length ≤ 100000 := by
  unfold ptrOf at h
  cases ht : textOf v key with
  | none => rw [ht] at h; cases h
  | some t =>
    rw [ht] at h
    have hl := text_len hv ht
    obtain ⟨_, h2⟩ := names_len h
    rw [(parse_back h2).1]
    exact hl
theorem opn_fit {v : Vl} {o : Opn} (hv : Fit v) (hs : v.size ≤ 2000) (h : opn v = some o) : OpFit o := by
  unfold opn at h
  cases ht : textOf v kOp with
  | none => rw [ht] at h; cases h
  | some t =>
    rw [ht] at h
    simp only [Option.bind_some] at h
    split at h
    · cases h
    · rename_i h0
      have h6 := numOf_le t
      cases hp : ptrOf v kPath with
      | none => rw [hp] at h; cases h
      | some p =>
        rw [hp] at h
        simp only [Option.bind_some] at h
        have hpt := ptr_text hv hp
        unfold restOf at h
        split at h
        · obtain ⟨f, hf, rfl⟩ := Option.map_eq_some_iff.1 h
          exact ⟨by simp only; omega, (show neat Ps.mkN = true by decide), (show Ps.mkN.size ≤ 2000 by decide), hpt, ptr_text hv hf⟩
        · split at h
          · injection h with h; subst h
            exact ⟨by simp only; omega, (show neat Ps.mkN = true by decide), (show Ps.mkN.size ≤ 2000 by decide), hpt, by simp [text]⟩
          · obtain ⟨u, hu, rfl⟩ := Option.map_eq_some_iff.1 h
            have hfu := fit_find hv hu
            obtain ⟨b, n, s, l, m, q, rfl, hq, rfl⟩ := find_in hu
            have := size_mem hq
            simp only [Vl.size] at hs
            exact ⟨by simp only; omega, hfu.neat, by simp only; omega, hpt, by simp [text]⟩
theorem len_name (a : List UInt8) : a.length ≤ (name a).length := by
  induction a with
  | nil => simp
  | cons c a ih =>
    have e : name (c :: a) = esc c ++ name a := by simp [name]
    rw [e, List.length_append, List.length_cons]
    have := esc_len c
    omega
theorem len_text (l : List (List UInt8)) : l.length ≤ (text l).length := by
  induction l with
  | nil => simp
  | cons b l ih =>
    rw [text_cons, List.length_cons, List.length_cons, List.length_append]
    omega
theorem name_small {l : List (List UInt8)} (h : (text l).length ≤ 100000) : (∀ n ∈ l, n.length ≤ 1000000) ∧ l.length ≤ 100000 := by
  refine ⟨?_, by have := len_text l; omega⟩
  induction l with
  | nil => intro n hn; cases hn
  | cons a l ih =>
    rw [text_cons, List.length_cons, List.length_append] at h
    have ha := len_name a
    intro n hn
    rcases List.mem_cons.1 hn with rfl | hn
    · omega
    · exact ih (by omega) n hn
theorem neat_two {v r : Vl} {ns : List (List UInt8)} (hv : neat v = true) (h : edit 2 ns v Ps.mkN = .ok r) : neat r = true ∧ r.size ≤ v.size + 1 :=
  ⟨neat_edit hv (.inl rfl) h, by have := size_edit ns hv h; simpa [Vl.size, sizeL, sizeM] using this⟩
theorem doOp_neat {v u : Vl} {o : Opn} (hv : neat v = true) (ho : OpFit o) (h : doOp v o = .ok u) : neat u = true ∧ u.size ≤ 2 * v.size + 2001 := by
  unfold doOp at h
  split at h
  · have := size_edit _ hv h
    have := ho.size
    exact ⟨neat_edit hv (.inr ho.neat) h, by omega⟩
  · split at h
    · cases h
    · cases hg : get v (if o.op = 6 then o.path else o.src) with
      | none => rw [hg] at h; cases h
      | some x =>
        rw [hg] at h
        simp only at h
        obtain ⟨hx, hsx⟩ := get_neat _ hv hg
        split at h
        · split at h
          · injection h with h; subst h; exact ⟨hv, by omega⟩
          · cases h
        · split at h
          · split at h
            · injection h with h; subst h; exact ⟨hv, by omega⟩
            · cases he : edit 2 o.src v Ps.mkN with
              | bad c => rw [he] at h; cases h
              | ok r =>
                rw [he] at h
                simp only at h
                obtain ⟨h1, h2⟩ := neat_two hv he
                have := size_edit _ h1 h
                exact ⟨neat_edit h1 (.inr hx) h, by omega⟩
          · have := size_edit _ hv h
            exact ⟨neat_edit hv (.inr hx) h, by omega⟩

end Go.Proofs.YtjjenpmahmbafaaGreatDoor.Ap

namespace Go.Proofs.YtjjenpmahmbafaaGreatDoor.Ap
open Js Pt Oq Ed

mutual
def tame : Vl → Bool
  | .mk k b n s l m => decide (0 ≤ k) && decide (k ≤ 5) && (decide (k = 1) || !b) && (decide (k = 2) || decide (n = Nm.Num.zero)) && (decide (k = 3) || decide (s = [])) && mayNum n && tameL l && tameM m
def tameL : List Vl → Bool
  | [] => true
  | v :: l => tame v && tameL l
def tameM : List Mem → Bool
  | [] => true
  | p :: m => tameP p && tameM m
def tameP : Mem → Bool
  | (_, v) => tame v
end
theorem tameL_iff (l : List Vl) : tameL l = true ↔ ∀ v ∈ l, tame v = true := by
  induction l with
  | nil => simp [tameL]
  | cons v l ih => simp [tameL, ih]
theorem tameM_iff (m : List Mem) : tameM m = true ↔ ∀ p ∈ m, tame p.2 = true := by
  induction m with
  | nil => simp [tameM]
  | cons p m ih => obtain ⟨k, v⟩ := p; simp [tameM, tameP, ih]
def Own (k : Int) (b : Bool) (n : Nm.Num) (s : List UInt8) : Prop := 0 ≤ k ∧ k ≤ 5 ∧ (¬ k = 1 → b = false) ∧ (¬ k = 2 → n = Nm.Num.zero) ∧ (¬ k = 3 → s = []) ∧ mayNum n = true
theorem tame_iff (k : Int) (b : Bool) (n : Nm.Num) (s : List UInt8) (l : List Vl) (m : List Mem) :
    tame (.mk k b n s l m) = true ↔ Own k b n s ∧ (∀ v ∈ l, tame v = true) ∧ (∀ p ∈ m, tame p.2 = true) := by
  unfold Own
  simp only [tame, Bool.and_eq_true, Bool.or_eq_true, decide_eq_true_eq, tameL_iff, tameM_iff, Bool.not_eq_true']
  constructor
  · rintro ⟨⟨⟨⟨⟨⟨⟨h0, h1⟩, h2⟩, h3⟩, h4⟩, h5⟩, h6⟩, h7⟩
    exact ⟨⟨h0, h1, fun h => h2.resolve_left h, fun h => h3.resolve_left h, fun h => h4.resolve_left h, h5⟩, h6, h7⟩
  · rintro ⟨⟨h0, h1, h2, h3, h4, h5⟩, h6, h7⟩
    exact ⟨⟨⟨⟨⟨⟨⟨h0, h1⟩, Decidable.or_iff_not_imp_left.2 h2⟩, Decidable.or_iff_not_imp_left.2 h3⟩, Decidable.or_iff_not_imp_left.2 h4⟩, h5⟩, h6⟩, h7⟩
theorem tame_may (v : Vl) (h : v.may = true) : tame v = true := by
  induction v using Vl.ind with
  | h k b n s l m hl hm =>
    obtain ⟨h0, h1, h2, h3, h4, _, _, h7, _, hL, hM, _⟩ := may_own h
    exact (tame_iff _ _ _ _ _ _).2 ⟨⟨h0, h1, h2, h3, h4, h7⟩, fun v hv => hl v hv ((mayL_iff l).1 hL v hv), fun p hp => hm p hp ((mayM_iff m).1 hM p hp).2⟩
theorem tame_null : tame Ps.mkN = true := by decide
theorem tame_kid {v y : Vl} {nm : List UInt8} (hv : tame v = true) (h : kid v nm = some y) : tame y = true := by
  obtain ⟨k, b, n, s, l, m⟩ := v
  obtain ⟨_, hl, hm⟩ := (tame_iff _ _ _ _ _ _).1 hv
  rw [kid_mk, find_five] at h
  split at h
  · split at h
    · exact hl _ (List.mem_of_getElem? h)
    · cases h
  · split at h
    · unfold Js.find at h
      obtain ⟨p, hp, rfl⟩ := Option.map_eq_some_iff.1 h
      exact hm p (List.mem_of_find?_eq_some hp)
    · cases h
theorem tame_get (ns : List (List UInt8)) : ∀ {v u : Vl}, tame v = true → get v ns = some u → tame u = true := by
  induction ns with
  | nil => intro v u hv h; rw [get_nil] at h; injection h with h; subst h; exact hv
  | cons nm ns ih =>
    intro v u hv h
    rw [get_kid] at h
    cases hk : kid v nm with
    | none => rw [hk] at h; cases h
    | some y => rw [hk] at h; exact ih (tame_kid hv hk) h
theorem tame_setKid {v z : Vl} {nm : List UInt8} (hv : tame v = true) (hz : tame z = true) : tame (setKid v nm z) = true := by
  obtain ⟨k, b, n, s, l, m⟩ := v
  obtain ⟨ho, hl, hm⟩ := (tame_iff _ _ _ _ _ _).1 hv
  by_cases hk : k = 4
  · rw [setKid_mk, if_pos hk]
    refine (tame_iff _ _ _ _ _ _).2 ⟨ho, fun u hu => ?_, (fun p hp => by cases hp)⟩
    rcases List.mem_or_eq_of_mem_set hu with h | rfl
    · exact hl u h
    · exact hz
  · rw [setKid_mk, if_neg hk]
    refine (tame_iff _ _ _ _ _ _).2 ⟨ho, (fun u hu => by cases hu), fun p hp => ?_⟩
    obtain ⟨q, hq, rfl⟩ := List.mem_map.1 hp
    by_cases hn : q.1 = nm
    · rw [if_pos hn]; exact hz
    · rw [if_neg hn]; exact hm q hq
theorem tame_one {op : Nat} {nm : List UInt8} {v x u : Vl} (hv : tame v = true) (hx : op = 2 ∨ tame x = true) (h : one op nm v x = .ok u) : tame u = true := by
  obtain ⟨k, b, n, s, l, m⟩ := v
  obtain ⟨ho, hl, hm⟩ := (tame_iff _ _ _ _ _ _).1 hv
  rw [one_mk] at h
  split at h
  · split at h
    · injection h with h
      subst h
      refine (tame_iff _ _ _ _ _ _).2 ⟨ho, fun v hv => ?_, (fun p hp => by cases hp)⟩
      unfold inL at hv
      split at hv
      · rename_i h1
        rcases List.mem_append.1 hv with h | h
        · exact hl v (List.mem_of_mem_take h)
        · rcases List.mem_cons.1 h with rfl | h
          · exact hx.resolve_left (by omega)
          · exact hl v (List.mem_of_mem_drop h)
      · split at hv
        · exact hl v (List.mem_of_mem_eraseIdx hv)
        · rename_i h2
          rcases List.mem_or_eq_of_mem_set hv with h | rfl
          · exact hl v h
          · exact hx.resolve_left h2
    · cases h
  · split at h
    · split at h
      · injection h with h
        subst h
        refine (tame_iff _ _ _ _ _ _).2 ⟨ho, (fun p hp => by cases hp), fun p hp => ?_⟩
        split at hp
        · exact hm p (List.filter_sublist.subset hp)
        · rename_i h2
          unfold put at hp
          rcases List.mem_append.1 hp with h | h
          · exact hm p ((List.takeWhile_sublist _).subset h)
          · rcases List.mem_cons.1 h with rfl | h
            · exact hx.resolve_left h2
            · exact hm p ((List.dropWhile_sublist _).subset (List.filter_sublist.subset h))
      · cases h
    · cases h
theorem tame_edit {op : Nat} (ns : List (List UInt8)) {x : Vl} : ∀ {v u : Vl}, tame v = true → (op = 2 ∨ tame x = true) → edit op ns v x = .ok u → tame u = true := by
  induction ns with
  | nil =>
    intro v u _ hx h
    unfold edit at h
    split at h
    · cases h
    · rename_i h2; injection h with h; subst h; exact hx.resolve_left h2
  | cons nm ns ih =>
    intro v u hv hx h
    cases ns with
    | nil => exact tame_one hv hx h
    | cons a r =>
      rw [edit_more op nm (by simp), under_kid] at h
      cases hk : kid v nm with
      | none => rw [hk] at h; cases h
      | some y =>
        rw [hk] at h
        simp only at h
        cases he : edit op (a :: r) y x with
        | bad c => rw [he] at h; cases h
        | ok z =>
          rw [he] at h
          injection h with h; subst h
          exact tame_setKid hv (ih (tame_kid hv hk) hx he)
theorem tame_doOp {v u : Vl} {o : Opn} (hv : tame v = true) (ho : tame o.v = true) (h : doOp v o = .ok u) : tame u = true := by
  unfold doOp at h
  split at h
  · exact tame_edit _ hv (.inr ho) h
  · split at h
    · cases h
    · cases hg : get v (if o.op = 6 then o.path else o.src) with
      | none => rw [hg] at h; cases h
      | some x =>
        rw [hg] at h
        simp only at h
        have hx := tame_get _ hv hg
        split at h
        · split at h
          · injection h with h; subst h; exact hv
          · cases h
        · split at h
          · split at h
            · injection h with h; subst h; exact hv
            · cases he : edit 2 o.src v Ps.mkN with
              | bad c => rw [he] at h; cases h
              | ok r =>
                rw [he] at h
                simp only at h
                exact tame_edit _ (tame_edit _ hv (.inl rfl) he) (.inr hx) h
          · exact tame_edit _ hv (.inr hx) h
theorem tame_find {v u : Vl} {key : List UInt8} (hv : tame v = true) (h : v.find key = some u) : tame u = true := by
  obtain ⟨b, n, s, l, m, q, rfl, hq, rfl⟩ := find_in h
  exact ((tame_iff _ _ _ _ _ _).1 hv).2.2 q hq
theorem opn_tame {v : Vl} {o : Opn} (hv : tame v = true) (h : opn v = some o) : tame o.v = true := by
  unfold opn at h
  cases ht : textOf v kOp with
  | none => rw [ht] at h; cases h
  | some t =>
    rw [ht] at h
    simp only [Option.bind_some] at h
    split at h
    · cases h
    · cases hp : ptrOf v kPath with
      | none => rw [hp] at h; cases h
      | some p =>
        rw [hp] at h
        simp only [Option.bind_some] at h
        unfold restOf at h
        split at h
        · obtain ⟨f, hf, rfl⟩ := Option.map_eq_some_iff.1 h
          exact tame_null
        · split at h
          · injection h with h; subst h
            exact tame_null
          · obtain ⟨u, hu, rfl⟩ := Option.map_eq_some_iff.1 h
            exact tame_find hv hu
structure ValFit (v : Vl) : Prop where
  neat : neat v = true
  tame : tame v = true
  size : v.size ≤ 3000
structure OpsFit (l : List Opn) : Prop where
  fit : ∀ o ∈ l, OpFit o
  tame : ∀ o ∈ l, tame o.v = true
theorem OpsFit.take {l : List Opn} (h : OpsFit l) (k : Nat) : OpsFit (l.take k) := ⟨fun o ho => h.fit o (List.mem_of_mem_take ho), fun o ho => h.tame o (List.mem_of_mem_take ho)⟩
theorem OpsFit.drop {l : List Opn} (h : OpsFit l) (k : Nat) : OpsFit (l.drop k) := ⟨fun o ho => h.fit o (List.mem_of_mem_drop ho), fun o ho => h.tame o (List.mem_of_mem_drop ho)⟩
theorem done_fit {v u : Vl} {o : Opn} (hv : ValFit v) (ho : OpFit o) (ht : Ap.tame o.v = true) (h : done v o = .ok u) : ValFit u ∧ u.depth ≤ 32 := by
  obtain ⟨h1, h2, h3⟩ := done_inv h
  exact ⟨⟨(doOp_neat hv.neat ho h1).1, tame_doOp hv.tame ht h1, h2⟩, h3⟩
theorem apply_fit (l : List Opn) : ∀ {v u : Vl} {i : Nat}, ValFit v → v.depth ≤ 32 → OpsFit l → applyAt v l i = .ok u → ValFit u ∧ u.depth ≤ 32 := by
  induction l with
  | nil => intro v u i hv hd _ h; injection h with h; subst h; exact ⟨hv, hd⟩
  | cons o l ih =>
    intro v u i hv _ ho h
    rw [applyAt_cons] at h
    cases hd : done v o with
    | bad c => rw [hd] at h; cases h
    | ok w =>
      rw [hd] at h
      simp only at h
      obtain ⟨h1, h2⟩ := done_fit hv (ho.fit o (by simp)) (ho.tame o (by simp)) hd
      exact ih h1 h2 ⟨fun p hp => ho.fit p (by simp [hp]), fun p hp => ho.tame p (by simp [hp])⟩ h
def Rs.z : Rs → Vl
  | .ok v => v
  | .bad _ _ => Ps.mkN
def Rs.c : Rs → Nat
  | .ok _ => 0
  | .bad c _ => c
def Rs.i : Rs → Nat
  | .ok _ => 0
  | .bad _ i => i

end Go.Proofs.YtjjenpmahmbafaaGreatDoor.Ap


