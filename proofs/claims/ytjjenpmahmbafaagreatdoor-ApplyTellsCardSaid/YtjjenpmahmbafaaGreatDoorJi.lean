/- The walks of layer 7 (edit): the document's Edit, of an element, walked. -/
import Derived.Test.YtjjenpmahmbafaaGreatDoorJd
namespace Go.Proofs.YtjjenpmahmbafaaGreatDoor.Ed
open Js Pt

theorem edit_list_no {op : Nat} {nm : List UInt8} {ns : List (List UInt8)} {b : Bool} {n : Nm.Num} {s : List UInt8} {l : List Vl} {m : List Mem} {x : Vl} (h : (index nm l.length (decide (op = 1) && ns.isEmpty)).2 = false) :
    edit op (nm :: ns) (.mk 4 b n s l m) x = .bad 6 := by
  cases ns with
  | nil =>
    rw [List.isEmpty_nil, Bool.and_true] at h
    show one op nm _ x = _
    rw [one_mk, if_pos rfl, if_neg (by rw [h]; decide)]
  | cons a r =>
    rw [List.isEmpty_cons, Bool.and_false] at h
    rw [edit_more op nm (by simp), under_mk, if_pos rfl, if_neg (by rw [h]; decide)]
theorem edit_list_last {op : Nat} {nm : List UInt8} {b : Bool} {n : Nm.Num} {s : List UInt8} {l : List Vl} {m : List Mem} {x : Vl} {q : Nat} (h : index nm l.length (decide (op = 1)) = (q, true)) :
    edit op [nm] (.mk 4 b n s l m) x = .ok (.mk 4 b n s (inL op l q x) []) := by
  show one op nm _ x = _
  rw [one_mk, if_pos rfl, h, if_pos rfl]
theorem edit_list_more {op : Nat} {nm : List UInt8} {ns : List (List UInt8)} {b : Bool} {n : Nm.Num} {s : List UInt8} {l : List Vl} {m : List Mem} {x : Vl} {q : Nat} (hn : ns ≠ []) (h : index nm l.length false = (q, true)) (hq : q < l.length) :
    edit op (nm :: ns) (.mk 4 b n s l m) x = match edit op ns l[q] x with | .ok z => .ok (.mk 4 b n s (l.set q z) []) | .bad c => .bad c := by
  rw [edit_more op nm hn, under_mk, if_pos rfl, h, if_pos rfl, List.getElem?_eq_getElem hq]; rfl

end Go.Proofs.YtjjenpmahmbafaaGreatDoor.Ed
namespace Go.Proofs.YtjjenpmahmbafaaGreatDoor
open Go.RowKit Pt Js

structure EList (S : Nat → Prop) (w : World) (g8 g10 : Nat) (V X : Array Value) (b : Bool) (n : Nm.Num) (s : List UInt8) (N : Nat) (f : Nat → List Vl) (j : Nat) (A : Option Addr) (cp : Nat) (wr : World) : Prop where
  hj : j ≤ N + 1
  ed : Ed7 w g8 g10 V X (outC 4 b n s (.slice A (f j).length cp) (.slice none 0 0)) wr
  row : RowG ItV 28 8 S wr (w.heap.size + 4) A cp (f j)
def EListing (S : Nat → Prop) (w : World) (g8 g10 : Nat) (V X : Array Value) (b : Bool) (n : Nm.Num) (s : List UInt8) (N : Nat) (f : Nat → List Vl) (R : Nat → Prop) (v : Value) (wr : World) : Prop :=
  ∃ (j : Nat) (A : Option Addr) (cp : Nat), v = .int .i64 j ∧ EList S w g8 g10 V X b n s N f j A cp wr ∧ R j

theorem EditPost.parts {S : Nat → Prop} {r : Ed.Ch} {w w' : World} {e : Ending} (h : EditPost S r w e w') : ∃ (y : Value) (c : Nat) (z : Vl), e = .returned (.tuple #[y, .int .i64 c]) ∧ z.In (w'.on fun b => S b ∨ w.heap.size ≤ b) y ∧ Below w.heap.size w w' ∧ ((c = 0 ∧ r = .ok z) ∨ (0 < c ∧ c ≤ 14 ∧ r = .bad c)) := by
  obtain ⟨hb, ⟨u, y, rfl, rfl, h⟩ | ⟨c, y, rfl, h1, h2, rfl, h⟩⟩ := h
  · exact ⟨y, 0, u, rfl, h, hb, .inl ⟨rfl, rfl⟩⟩
  · exact ⟨y, c, _, rfl, h, hb, .inr ⟨h1, h2, rfl⟩⟩
theorem EList.same {S : Nat → Prop} {w wr : World} {g8 g10 : Nat} {V X : Array Value} {b : Bool} {n : Nm.Num} {s : List UInt8} {N : Nat} {f : Nat → List Vl} {j : Nat} {A : Option Addr} {cp : Nat} {acc : List Vl}
    (hj : j ≤ N) (hF : f (j + 1) = acc) (hed : Ed7 w g8 g10 V X (outC 4 b n s (.slice A acc.length cp) (.slice none 0 0)) wr) (hrow : RowG ItV 28 8 S wr (w.heap.size + 4) A cp acc) : EList S w g8 g10 V X b n s N f (j + 1) A cp wr :=
  ⟨by omega, by rw [hF]; exact hed, by rw [hF]; exact hrow⟩
theorem EList.next {S : Nat → Prop} {w wr : World} {g8 g10 : Nat} {V X : Array Value} {b : Bool} {n : Nm.Num} {s : List UInt8} {N : Nat} {f : Nat → List Vl} {j : Nat} {A : Option Addr} {cp : Nat} {acc : List Vl} {u : Vl}
    (hj : j ≤ N) (hF : f (j + 1) = acc ++ [u]) (h : Ed7 w g8 g10 V X (outC 4 b n s (.slice A (acc.length + 1) cp) (.slice none 0 0)) wr ∧ RowG ItV 28 8 S wr (w.heap.size + 4) A cp (acc ++ [u])) : EList S w g8 g10 V X b n s N f (j + 1) A cp wr :=
  ⟨by omega, by rw [hF, List.length_append]; exact h.1, by rw [hF]; exact h.2⟩

set_option linter.unusedSimpArgs false in
set_option linter.unusedVariables false in
set_option maxRecDepth 100000 in
set_option maxHeartbeats 16000000 in
theorem refEdit_list (op : Nat) (h13 : op = 1 ∨ op = 2 ∨ op = 3) (nm : List UInt8) (ns : List (List UInt8)) (ih : ns ≠ [] → EditC op ns) (S : Nat → Prop) (b : Bool) (n : Nm.Num) (s : List UInt8) (l : List Vl) (m : List Js.Mem) (x : Vl) (xv xx : Value) (A : Option Addr) (e : Nat) (w : World)
    (hS : ∀ b, S b → b < w.heap.size) (hv : (Vl.mk 4 b n s l m).In (w.on S) xv) (hx : x.In (w.on S) xx) (hs : Strs w.cell? A (nm :: ns)) (he : (nm :: ns).length ≤ e) (hm : e ≤ maxLen) (hns : ∀ q ∈ nm :: ns, q.length ≤ 1000000) (hne : Ed.neat (.mk 4 b n s l m) = true) (hsz : (Vl.mk 4 b n s l m).size ≤ 1000000) :
    Calls Tryz.prog 43 #[.int .i64 op, xv, .slice A (nm :: ns).length e, xx] w (EditPost S (Ed.edit op (nm :: ns) (.mk 4 b n s l m) x) w) := by
  obtain ⟨A', e', B', d', rfl, q1, q2, q3, q4, q5, q6⟩ := In.form hv
  obtain ⟨x_1, x_2, x_3, x_4, x_5, x_6, x_7, x_8, x_9, x_a, x_b, x_c, rfl⟩ := In.cells hx
  obtain ⟨g0, o0, rfl, hc0⟩ := hs 0 nm rfl
  rw [Nat.add_zero] at hc0
  simp only [List.length_cons] at he
  have hll : l.length ≤ 1000000 := by have := sizeL_len l; simp only [Vl.size] at hsz; omega
  have hnl := hns nm (by simp)
  have HX := Lib.hid hx
  have HS := Lib.hid hS
  have HL := Lib.hid (show SlL (w.on S) A' l from q5)
  have HST := Lib.hid hs
  have HNS := Lib.hid hns
  have HNE := Lib.hid hne
  have HSZ := Lib.hid hsz
  unfold maxLen at hm q2 q4
  have HE4 := Lib.hid (show Ed7 w (w.heap.size + 1 + 1) (w.heap.size + 1 + 1 + 1) #[.int .i64 4, .bool b, .bool n.neg, .string ⟨n.digits.toArray⟩, .int .i64 n.exp, .string ⟨s.toArray⟩, .slice A' l.length e', .slice B' m.length d'] #[.int .i64 x_1, .bool x_2, .bool x_3, .string ⟨x_4.toArray⟩, .int .i64 x_5, .string ⟨x_6.toArray⟩, .slice x_7 x_8 x_9, .slice x_a x_b x_c] #[.int .i64 4, .bool b, .bool n.neg, .string ⟨n.digits.toArray⟩, .int .i64 n.exp, .string ⟨s.toArray⟩, .slice none 0 0, .slice none 0 0] ((((w.alloc (.cells #[.int .i64 4, .bool b, .bool n.neg, .string ⟨n.digits.toArray⟩, .int .i64 n.exp, .string ⟨s.toArray⟩, .slice A' l.length e', .slice B' m.length d'] 28)).alloc (.cells #[.int .i64 x_1, .bool x_2, .bool x_3, .string ⟨x_4.toArray⟩, .int .i64 x_5, .string ⟨x_6.toArray⟩, .slice x_7 x_8 x_9, .slice x_a x_b x_c] 28)).alloc (.cells #[.int .i64 0, .bool false, .bool false, .string ⟨#[]⟩, .int .i64 0, .string ⟨#[]⟩, .slice none 0 0, .slice none 0 0] 28)).alloc (.cells #[.int .i64 4, .bool b, .bool n.neg, .string ⟨n.digits.toArray⟩, .int .i64 n.exp, .string ⟨s.toArray⟩, .slice none 0 0, .slice none 0 0] 28)) from
    ⟨rfl, rfl, (((Blk.new w _ #[.int .i64 4, .bool b, .bool n.neg, .string ⟨n.digits.toArray⟩, .int .i64 n.exp, .string ⟨s.toArray⟩, .slice A' l.length e', .slice B' m.length d']).alloc _).alloc _).alloc _, ((Blk.new2 w _ _ #[.int .i64 x_1, .bool x_2, .bool x_3, .string ⟨x_4.toArray⟩, .int .i64 x_5, .string ⟨x_6.toArray⟩, .slice x_7 x_8 x_9, .slice x_a x_b x_c]).alloc _).alloc _, (Blk.new3 w _ _ _ #[.int .i64 0, .bool false, .bool false, .string ⟨#[]⟩, .int .i64 0, .string ⟨#[]⟩, .slice none 0 0, .slice none 0 0]).alloc _, by have := Blk.new (((w.alloc (.cells #[.int .i64 4, .bool b, .bool n.neg, .string ⟨n.digits.toArray⟩, .int .i64 n.exp, .string ⟨s.toArray⟩, .slice A' l.length e', .slice B' m.length d'] 28)).alloc (.cells #[.int .i64 x_1, .bool x_2, .bool x_3, .string ⟨x_4.toArray⟩, .int .i64 x_5, .string ⟨x_6.toArray⟩, .slice x_7 x_8 x_9, .slice x_a x_b x_c] 28)).alloc (.cells #[.int .i64 0, .bool false, .bool false, .string ⟨#[]⟩, .int .i64 0, .string ⟨#[]⟩, .slice none 0 0, .slice none 0 0] 28)) 28 #[.int .i64 4, .bool b, .bool n.neg, .string ⟨n.digits.toArray⟩, .int .i64 n.exp, .string ⟨s.toArray⟩, .slice none 0 0, .slice none 0 0]; simpa using this, (below_three w _ _ _).alloc (by simp; omega) _⟩)
  clear hv hx hs hns hne hsz q5 q6 hS
  obtain ⟨last, hlast⟩ : ∃ last, ns.isEmpty = last := ⟨_, rfl⟩
  have hlb : ((ns.length : Int) + 1 == 1) = last := by
    rw [← hlast]
    cases ns with
    | nil => rfl
    | cons a r => rw [List.isEmpty_cons, beq_eq_false_iff_ne]; simp only [List.length_cons]; omega
  have hnz0 : ((ns.length : Int) + 1 == 0) = false := by rw [beq_eq_false_iff_ne]; omega
  obtain ⟨o1, ho1⟩ : ∃ o1, ((op : Int) == 1) = o1 := ⟨_, rfl⟩
  have ho1d : decide (op = 1) = o1 := by rw [← ho1, Bool.eq_iff_iff, decide_eq_true_eq, beq_iff_eq]; omega
  have HIX := Lib.hid (fun W => refIndex_any nm l.length (o1 && last) W (by omega) (by omega))
  have HO1 := Lib.hid ho1d
  have HLAST := Lib.hid hlast
  clear ho1d hlast
  obtain ⟨q, hq⟩ : ∃ q, index nm l.length (o1 && last) = q := ⟨_, rfl⟩
  obtain ⟨qi, qb⟩ := q
  have HQ := Lib.hid hq
  rw [hq] at HIX
  simp only at HIX
  clear hq
  go_enter Tryz.func43, Tryz.ntmps43
  go_wp2_with fail
  go_upto_region 10 with (fail)
  generalize ((((w.alloc (.cells #[.int .i64 4, .bool b, .bool n.neg, .string ⟨n.digits.toArray⟩, .int .i64 n.exp, .string ⟨s.toArray⟩, .slice A' l.length e', .slice B' m.length d'] 28)).alloc (.cells #[.int .i64 x_1, .bool x_2, .bool x_3, .string ⟨x_4.toArray⟩, .int .i64 x_5, .string ⟨x_6.toArray⟩, .slice x_7 x_8 x_9, .slice x_a x_b x_c] 28)).alloc (.cells #[.int .i64 0, .bool false, .bool false, .string ⟨#[]⟩, .int .i64 0, .string ⟨#[]⟩, .slice none 0 0, .slice none 0 0] 28)).alloc (.cells #[.int .i64 4, .bool b, .bool n.neg, .string ⟨n.digits.toArray⟩, .int .i64 n.exp, .string ⟨s.toArray⟩, .slice none 0 0, .slice none 0 0] 28)) = w4 at *
  generalize w.heap.size + 1 + 1 + 1 = g10 at *
  generalize w.heap.size + 1 + 1 = g8 at *
  have hc1 := le_below HE4.out.below _ _ hc0
  have hgl := World.block_lt_of_cell? _ _ hc1
  obtain ⟨v0, v1, v2, v3, v4, v5, v6, v7⟩ := HE4.out.v.eight
  go_cut [12, 13] from 41 to 41 (fun v12 v13 wc => v12 = .int .i64 qi ∧ v13 = .bool qb ∧ Ed7 w g8 g10 #[.int .i64 4, .bool b, .bool n.neg, .string ⟨n.digits.toArray⟩, .int .i64 n.exp, .string ⟨s.toArray⟩, .slice A' l.length e', .slice B' m.length d'] #[.int .i64 x_1, .bool x_2, .bool x_3, .string ⟨x_4.toArray⟩, .int .i64 x_5, .string ⟨x_6.toArray⟩, .slice x_7 x_8 x_9, .slice x_a x_b x_c] (outC 4 b n s (.slice none 0 0) (.slice none 0 0)) wc)
  case first =>
    cases o1
    all_goals
      simp only [Bool.false_and, Bool.true_and] at HIX
      go_quiet ((go_at_call 29; refine Calls.quiet_of_same (HIX.out _)))
      go_wp2_with fail
      go_meet
      case rel => exact ⟨rfl, rfl, HE4.out.drewN nq⟩
  case rest =>
    obtain ⟨rfl, rfl, hE⟩ := hcut
    have HE := Lib.hid hE
    clear v0 v1 v2 v3 v4 v5 v6 v7 hc1 hgl HE4 HIX
    cases qb with
    | false =>
      have HR := Lib.hid (show Ed.edit op (nm :: ns) (.mk 4 b n s l m) x = .bad 6 from Ed.edit_list_no (by rw [HO1.out, HLAST.out, HQ.out]))
      obtain ⟨z0, z1, z2, z3, z4, z5, z6, z7⟩ := hE.z.eight
      have zf := hE.z.frozen
      have zl := hE.z.lt
      clear hE
      go_wp2_with fail
      refine bodyPost_ret (results_row (l := [_, _, _, _, _, _, _, _]) rfl _ _ _ rfl (HE.out.z.set8 _ _ _ _ _ _ _ _) Tryz.underlying28 rfl (by kernel_rfl)) rfl ?_
      exact ⟨below_set8 HE.out.below (by have := HE.out.e8; omega) _ _ _ _ _ _ _ _, .inr ⟨6, _, HR.out, by omega, by omega, rfl, leaf_in _ 0 false Nm.Num.zero []⟩⟩
    | true =>
      clear hE
      have hqi : qi < l.length ∨ (qi = l.length ∧ op = 1 ∧ last = true) := by
        have h := Ed.index_true (nm := nm) (n := l.length) (e := o1 && last) (by rw [HQ.out])
        rw [HQ.out] at h
        rcases h with ⟨h1, _, h2⟩ | ⟨_, _, h2, h3⟩
        · rw [Bool.and_eq_true] at h1
          exact .inr ⟨h2, of_decide_eq_true (HO1.out.trans h1.1), h1.2⟩
        · rcases h3 with h3 | ⟨h3, h1⟩
          · exact .inl (by simp only at h2; omega)
          · rw [Bool.and_eq_true] at h1
            exact .inr ⟨by simp only at h2; omega, of_decide_eq_true (HO1.out.trans h1.1), h1.2⟩
      obtain ⟨zr, hzr⟩ : ∃ zr : Vl, zr = (match Ed.edit op ns (l[qi]?.getD x) x with | .ok z => z | .bad _ => x) := ⟨_, rfl⟩
      have HZR := Lib.hid hzr
      have HQI := Lib.hid hqi
      clear hzr hqi
      go_wp2_with fail
      go_loopw [14] (EListing S w g8 g10 #[.int .i64 4, .bool b, .bool n.neg, .string ⟨n.digits.toArray⟩, .int .i64 n.exp, .string ⟨s.toArray⟩, .slice A' l.length e', .slice B' m.length d'] #[.int .i64 x_1, .bool x_2, .bool x_3, .string ⟨x_4.toArray⟩, .int .i64 x_5, .string ⟨x_6.toArray⟩, .slice x_7 x_8 x_9, .slice x_a x_b x_c] b n s l.length (Ed.outL op last l qi x zr) (fun j => last = false → qi < j → Ed.edit op ns (l[qi]?.getD x) x = .ok zr)) (fun v _ => l.length + 1 - (intOf v).toNat)
      case atStart => exact ⟨0, none, 0, rfl, ⟨by omega, HE.out, RowG.nil _ _⟩, fun _ h => by omega⟩
      case round =>
      clear HE
      obtain ⟨j, Ar, cp, rfl, hE, hR⟩ := hrel
      obtain ⟨hj, hed, hrow⟩ := hE
      have hal := Ed.outL_len op last l qi x zr j
      generalize hacc : Ed.outL op last l qi x zr j = acc at hed hrow hal
      have HAK := Lib.hid hacc
      have HE := Lib.hid hed
      have HROW := Lib.hid hrow
      have HRJ := Lib.hid hR
      have hrl := hrow.le
      obtain ⟨v0, v1, v2, v3, v4, v5, v6, v7⟩ := hed.v.eight
      obtain ⟨a0, a1, a2, a3, a4, a5, a6, a7⟩ := hed.o.eight
      have of := hed.o.frozen
      have ol := hed.o.lt
      have hsz4 := hed.size
      clear hed hR hacc hrow
      by_cases hend : j = l.length + 1
      · subst hend
        have hjj : ¬ ((l.length + 1 : Nat) : Int) ≤ (l.length : Int) := by omega
        obtain ⟨z0, z1, z2, z3, z4, z5, z6, z7⟩ := HE.out.z.eight
        have zf := HE.out.z.frozen
        have zl := HE.out.z.lt
        have HR := Lib.hid (show Ed.edit op (nm :: ns) (.mk 4 b n s l m) x = .ok (.mk 4 b n s acc []) by
          rw [← HAK.out]
          have h13' := h13
          cases last with
          | true =>
            obtain rfl : ns = [] := List.isEmpty_iff.1 HLAST.out
            have hq := HQ.out
            rw [← HO1.out, Bool.and_true] at hq
            rw [Ed.edit_list_last hq, Ed.outL_last h13' (HQI.out.imp id fun h => ⟨h.1, h.2.1⟩)]
          | false =>
            have hne : ns ≠ [] := fun h => by rw [h] at HLAST; exact absurd HLAST.out (by decide)
            have hlt := HQI.out.resolve_right (fun h => by cases h.2.2)
            have hq := HQ.out
            rw [Bool.and_false] at hq
            have hz := HRJ.out rfl (by omega)
            rw [List.getElem?_eq_getElem hlt, Option.getD_some] at hz
            rw [Ed.edit_list_more hne hq hlt, hz, Ed.outL_more hlt])
        go_wp2_with fail
        refine bodyPost_ret (results_row (l := [_, _, _, _, _, _, _, _]) rfl _ _ _ rfl (HE.out.z.set8 _ _ _ _ _ _ _ _) Tryz.underlying28 rfl (by kernel_rfl)) rfl ?_
        refine ⟨below_set8 HE.out.below (by have := HE.out.e8; omega) _ _ _ _ _ _ _ _, .inl ⟨_, _, HR.out, rfl, ?_⟩⟩
        refine In.keep (on_keep (fun b' h _ => h.imp id (fun h => by omega)) (fun b' h _ => heap_set8 _ _ _ (by
          have := HE.out.e8
          rcases h with h | h
          · have := HS.out b' h; omega
          · omega) _ _ _ _ _ _ _ _)) _ _ (In.mk' HROW.out.slL (slM_nil _ none) hrl.1 hrl.2.1 (Nat.le_refl _) (Nat.zero_le _))
      have hjn : j ≤ l.length := by omega
      obtain ⟨i0, hi0, hz0, hz1, hz2⟩ := infoV'
      by_cases hji : j = qi
      · subst hji
        have hjq : ((j : Int) == (j : Int)) = true := by simp
        cases last with
        | true =>
          by_cases hop2 : op = 2
          · have hjl : j < l.length := HQI.out.resolve_right (fun h => by omega)
            have p2 : ((op : Int) != 2) = false := by simp; omega
            have p1 : ((op : Int) != 1) = true := by simp; omega
            have hjl' : ((j : Int) == (l.length : Int)) = false := by rw [beq_eq_false_iff_ne]; omega
            have HF := Lib.hid (show Ed.outL op true l j x zr (j + 1) = acc by rw [Ed.outL_succ, HAK.out, hop2, Ed.pieceL_two, List.append_nil])
            have HOP := Lib.hid hop2
            clear hop2
            go_wp2_with fail
            go_roundw
            case rel => exact ⟨j + 1, Ar, cp, by go_num, EList.same hjn HF.out HE.out HROW.out, fun h1 _ => by cases h1⟩
            case measure => simp [intOf]; omega
          have p2 : ((op : Int) != 2) = true := by simp; omega
          have HOP2 := Lib.hid hop2
          clear hop2
          go_upto_region 17 with (fail)
          go_cut [75] from 59 to 59 (fun v75 wc => ∃ A7 cp7, Ed7 w g8 g10 #[.int .i64 4, .bool b, .bool n.neg, .string ⟨n.digits.toArray⟩, .int .i64 n.exp, .string ⟨s.toArray⟩, .slice A' l.length e', .slice B' m.length d'] #[.int .i64 x_1, .bool x_2, .bool x_3, .string ⟨x_4.toArray⟩, .int .i64 x_5, .string ⟨x_6.toArray⟩, .slice x_7 x_8 x_9, .slice x_a x_b x_c] (outC 4 b n s (.slice A7 (acc.length + 1) cp7) (.slice none 0 0)) wc ∧ RowG ItV 28 8 S wc (w.heap.size + 4) A7 cp7 (acc ++ [x]))
          case first =>
            obtain ⟨flat, hown, hone, hel⟩ := HROW.out
            have HOWN := Lib.hid hown
            have HONE := Lib.hid hone
            have HEL := Lib.hid hel
            have HB6 := Lib.hid ((Below.refl wr.heap.size wr).alloc (Nat.le_refl _) (.cells #[.int .i64 x_1, .bool x_2, .bool x_3, .string ⟨x_4.toArray⟩, .int .i64 x_5, .string ⟨x_6.toArray⟩, .slice x_7 x_8 x_9, .slice x_a x_b x_c] 28))
            have HOWN5 := Lib.hid (own_keep hown (fun k _ hk => HB6.out.block k hk))
            have HA5 := Lib.hid (In.keep (off_of HS.out (by omega) (HE.out.below.trans (HB6.out.mono HE.out.below.size)) (fun ad h => (hrl.2.2.2 ad h).1)) _ _ HX.out)
            obtain ⟨y0, y1, y2, y3, y4, y5, y6, y7⟩ := HE.out.x.eight
            have yxl := HE.out.x.lt
            clear hown hone hel
            go_wp2_with (refine wpList_append_lies _ rfl _ _ _ rfl (w.heap.size + 4) 28 i0 _ 8 112 Tryz.underlying25 hi0 hz0 hz1 hz2 rfl (by omega) (.slice Ar acc.length cp) acc.length flat rfl HOWN5.out ⟨wr.heap.size, 0, none⟩ 1 1 [.int .i64 x_1, .bool x_2, .bool x_3, .string ⟨x_4.toArray⟩, .int .i64 x_5, .string ⟨x_6.toArray⟩, .slice x_7 x_8 x_9, .slice x_a x_b x_c] rfl rfl (World.news_of_block (heap_alloc_new wr _)) (by simp [Value.oneCell']) (by omega) (by unfold maxLen; omega) (by omega) (by simp; omega) _ rfl ?_; intro g6 cap6 w6 hown6 hgrow6 hat6 hlt6; have HST := Lib.hid (list_step HS.out HE.out HOWN.out HONE.out HEL.out HB6.out HA5.out (by intro u hu; simp at hu; rcases hu with rfl | rfl | rfl | rfl | rfl | rfl | rfl | rfl <;> rfl) hown6 hgrow6 hat6); have q6 := ((HE.out.on HB6.out).grown hgrow6 (fun k hk => own_new (fun ad h => (hrl.2.2.2 ad h).1) hk)).o.cell 6; have qf := ((HE.out.on HB6.out).grown hgrow6 (fun k hk => own_new (fun ad h => (hrl.2.2.2 ad h).1) hk)).o.frozen; have ql := ((HE.out.on HB6.out).grown hgrow6 (fun k hk => own_new (fun ad h => (hrl.2.2.2 ad h).1) hk)).o.lt; clear hown6 hgrow6 hat6)
            go_meet
            case rel => exact ⟨some ⟨g6, 0, none⟩, cap6, HST.out.1, HST.out.2⟩
          case rest =>
            obtain ⟨A7, cp7, hed7, hrow7⟩ := hcut
            clear v0 v1 v2 v3 v4 v5 v6 v7 a0 a1 a2 a3 a4 a5 a6 a7 of ol
            obtain ⟨v0, v1, v2, v3, v4, v5, v6, v7⟩ := hed7.v.eight
            obtain ⟨a0, a1, a2, a3, a4, a5, a6, a7⟩ := hed7.o.eight
            have of := hed7.o.frozen
            have ol := hed7.o.lt
            have hsz7 := hed7.size
            have hrl7 := hrow7.le
            have HAL7 := Lib.hid (show (acc ++ [x]).length = acc.length + 1 by simp)
            have HE7 := Lib.hid hed7
            have HROW7 := Lib.hid hrow7
            clear hed7 hrow7
            by_cases hop1 : op = 1
            · have p1 : ((op : Int) != 1) = false := by simp; omega
              by_cases hjl : j = l.length
              · have HF := Lib.hid (show Ed.outL op true l j x zr (j + 1) = acc ++ [x] by rw [Ed.outL_succ, HAK.out, hop1, hjl, Ed.pieceL_end1])
                obtain rfl : j = l.length := hjl
                have HOP := Lib.hid hop1
                clear hop1
                go_wp2_with fail
                go_roundw
                case rel => exact ⟨l.length + 1, A7, cp7, by go_num, EList.next hjn HF.out ⟨HE7.out, HROW7.out⟩, fun h1 _ => by cases h1⟩
                case measure => simp [intOf]
              · have hlt : j < l.length := by omega
                have hjl' : ((j : Int) == (l.length : Int)) = false := by rw [beq_eq_false_iff_ne]; omega
                have HF := Lib.hid (show Ed.outL op true l j x zr (j + 1) = (acc ++ [x]) ++ [l[j]] by rw [Ed.outL_succ, HAK.out, hop1, Ed.pieceL_one hlt]; simp)
                have HOP := Lib.hid hop1
                clear hop1
                obtain ⟨acc7, hacc7⟩ : ∃ acc7, acc ++ [x] = acc7 := ⟨_, rfl⟩
                rw [hacc7] at HF HROW7 hrl7 HAL7
                rw [← HAL7.out] at HE7 a6
                have hal9 : acc7.length ≤ 2 * j + 1 := by rw [HAL7.out]; omega
                clear hacc7
                obtain ⟨gl, ol', yl, rfl, hyl, hcl⟩ := HL.out j _ (List.getElem?_eq_getElem hlt)
                obtain ⟨k_1, k_2, k_3, k_4, k_5, k_6, k_7, k_8, k_9, k_a, k_b, k_c, rfl⟩ := In.cells hyl
                obtain ⟨e0, e1, e2, e3, e4, e5, e6, e7⟩ := (hcl.keep ((on_all w S).trans (le_below HE7.out.below))).eight
                have HYL := Lib.hid hyl
                have hgl := World.block_lt_of_cell? _ _ e0
                generalize l[j] = u at *
                clear hyl hcl
                have HB59 := Lib.hid ((Below.refl wc.heap.size wc).alloc (Nat.le_refl _) (.cells #[.int .i64 k_1, .bool k_2, .bool k_3, .string ⟨k_4.toArray⟩, .int .i64 k_5, .string ⟨k_6.toArray⟩, .slice k_7 k_8 k_9, .slice k_a k_b k_c] 28))
                have HK59 := Lib.hid (Blk.new wc 28 #[.int .i64 k_1, .bool k_2, .bool k_3, .string ⟨k_4.toArray⟩, .int .i64 k_5, .string ⟨k_6.toArray⟩, .slice k_7 k_8 k_9, .slice k_a k_b k_c])
                go_upto_region 25 with (fail)
                generalize wc.alloc (.cells #[.int .i64 k_1, .bool k_2, .bool k_3, .string ⟨k_4.toArray⟩, .int .i64 k_5, .string ⟨k_6.toArray⟩, .slice k_7 k_8 k_9, .slice k_a k_b k_c] 28) = w59 at *
                obtain ⟨flat9, hown, hone, hel⟩ := HROW7.out
                have HOWN9 := Lib.hid hown
                have HONE9 := Lib.hid hone
                have HEL9 := Lib.hid hel
                have HB69 := Lib.hid (HB59.out.alloc HB59.out.size (.cells #[.int .i64 k_1, .bool k_2, .bool k_3, .string ⟨k_4.toArray⟩, .int .i64 k_5, .string ⟨k_6.toArray⟩, .slice k_7 k_8 k_9, .slice k_a k_b k_c] 28))
                have HOWN59 := Lib.hid (own_keep hown (fun k _ hk => HB69.out.block k hk))
                have HA59 := Lib.hid (In.keep (off_of HS.out (by omega) (HE7.out.below.trans (HB69.out.mono HE7.out.below.size)) (fun ad h => (hrl7.2.2.2 ad h).1)) _ _ HYL.out)
                obtain ⟨c09, c19, c29, c39, c49, c59, c69, c79⟩ := HK59.out.eight
                have cl9 := HK59.out.lt
                have b09 := (HE7.out.o.on HB59.out).cell 6
                have bf9 := (HE7.out.o.on HB59.out).frozen
                have bl9 := (HE7.out.o.on HB59.out).lt
                have hs59 := HB59.out.size
                clear hown hone hel
                go_wp2_with (refine wpList_append_lies _ rfl _ _ _ rfl (w.heap.size + 4) 28 i0 _ 8 112 Tryz.underlying25 hi0 hz0 hz1 hz2 rfl (by omega) (.slice A7 acc7.length cp7) acc7.length flat9 rfl HOWN59.out ⟨w59.heap.size, 0, none⟩ 1 1 [.int .i64 k_1, .bool k_2, .bool k_3, .string ⟨k_4.toArray⟩, .int .i64 k_5, .string ⟨k_6.toArray⟩, .slice k_7 k_8 k_9, .slice k_a k_b k_c] rfl rfl (World.news_of_block (heap_alloc_new w59 _)) (by simp [Value.oneCell']) (by omega) (by unfold maxLen; omega) (by omega) (by simp; omega) _ rfl ?_; intro g69 cap69 w69 hown6 hgrow6 hat6 hlt69; have HST9 := Lib.hid (list_step HS.out HE7.out HOWN9.out HONE9.out HEL9.out HB69.out HA59.out (by intro u hu; simp at hu; rcases hu with rfl | rfl | rfl | rfl | rfl | rfl | rfl | rfl <;> rfl) hown6 hgrow6 hat6); have q69 := ((HE7.out.on HB69.out).grown hgrow6 (fun k hk => own_new (fun ad h => (hrl7.2.2.2 ad h).1) hk)).o.cell 6; have qf9 := ((HE7.out.on HB69.out).grown hgrow6 (fun k hk => own_new (fun ad h => (hrl7.2.2.2 ad h).1) hk)).o.frozen; have ql9 := ((HE7.out.on HB69.out).grown hgrow6 (fun k hk => own_new (fun ad h => (hrl7.2.2.2 ad h).1) hk)).o.lt; clear hown6 hgrow6 hat6)

                go_roundw
                case rel => exact ⟨j + 1, some ⟨g69, 0, none⟩, cap69, by go_num, EList.next hjn HF.out HST9.out, fun h1 _ => by cases h1⟩
                case measure => simp [intOf]; omega
            · have hlt : j < l.length := HQI.out.resolve_right (fun h => hop1 h.2.1)
              have p1 : ((op : Int) != 1) = true := by simp; omega
              have hjl' : ((j : Int) == (l.length : Int)) = false := by rw [beq_eq_false_iff_ne]; omega
              have hop3 : op = 3 := (h13.resolve_left hop1).resolve_left HOP2.out
              have HF := Lib.hid (show Ed.outL op true l j x zr (j + 1) = acc ++ [x] by rw [Ed.outL_succ, HAK.out, hop3, Ed.pieceL_three])
              clear hop1 hop3
              go_wp2_with fail
              go_roundw
              case rel => exact ⟨j + 1, A7, cp7, by go_num, EList.next hjn HF.out ⟨HE7.out, HROW7.out⟩, fun h1 _ => by cases h1⟩
              case measure => simp [intOf]; omega
        | false =>
          have hne : ns ≠ [] := fun h => by rw [h] at HLAST; exact absurd HLAST.out (by decide)
          have hlt : j < l.length := HQI.out.resolve_right (fun h => by cases h.2.2)
          have hjl' : ((j : Int) == (l.length : Int)) = false := by rw [beq_eq_false_iff_ne]; omega
          have HEDN := Lib.hid (fun (hi : index nm l.length false = (j, true)) => Ed.edit_list_more (op := op) (nm := nm) (b := b) (n := n) (s := s) (m := m) (x := x) hne hi hlt)
          have HQF := Lib.hid (show index nm l.length false = (j, true) by have := HQ.out; rwa [Bool.and_false] at this)
          have HZ2 := Lib.hid (show zr = (match Ed.edit op ns l[j] x with | .ok z => z | .bad _ => x) by rw [HZR.out, List.getElem?_eq_getElem hlt]; rfl)
          have HGD := Lib.hid (show l[j]?.getD x = l[j] by rw [List.getElem?_eq_getElem hlt]; rfl)
          have HFZ := Lib.hid (show Ed.outL op false l j x zr (j + 1) = acc ++ [zr] by rw [Ed.outL_succ, HAK.out, Ed.pieceL_more hlt])
          obtain ⟨gl, ol', yl, rfl, hyl, hcl⟩ := HL.out j _ (List.getElem?_eq_getElem hlt)
          obtain ⟨k_1, k_2, k_3, k_4, k_5, k_6, k_7, k_8, k_9, k_a, k_b, k_c, rfl⟩ := In.cells hyl
          obtain ⟨e0, e1, e2, e3, e4, e5, e6, e7⟩ := (hcl.keep ((on_all w S).trans (le_below HE.out.below))).eight
          have HYL := Lib.hid hyl
          have hgl := World.block_lt_of_cell? _ _ e0
          have HUN := Lib.hid (show Ed.neat l[j] = true from ((Ed.neat_iff _ _ _ _ _ _).1 HNE.out).2.2.1 _ (List.getElem_mem hlt))
          have HUS := Lib.hid (show l[j].size ≤ 1000000 by have := sizeL_at hlt; have h2 := HSZ.out; simp only [Vl.size] at h2; omega)
          generalize l[j] = u at *
          clear hyl hcl
          have HB5 := Lib.hid ((Below.refl wr.heap.size wr).alloc (Nat.le_refl _) (.cells #[.int .i64 k_1, .bool k_2, .bool k_3, .string ⟨k_4.toArray⟩, .int .i64 k_5, .string ⟨k_6.toArray⟩, .slice k_7 k_8 k_9, .slice k_a k_b k_c] 28))
          have HK5 := Lib.hid (Blk.new wr 28 #[.int .i64 k_1, .bool k_2, .bool k_3, .string ⟨k_4.toArray⟩, .int .i64 k_5, .string ⟨k_6.toArray⟩, .slice k_7 k_8 k_9, .slice k_a k_b k_c])
          have HS50 := Lib.hid (show (wr.alloc (.cells #[.int .i64 k_1, .bool k_2, .bool k_3, .string ⟨k_4.toArray⟩, .int .i64 k_5, .string ⟨k_6.toArray⟩, .slice k_7 k_8 k_9, .slice k_a k_b k_c] 28)).heap.size = wr.heap.size + 1 by simp)
          go_upto_region 21 with (fail)
          generalize wr.alloc (.cells #[.int .i64 k_1, .bool k_2, .bool k_3, .string ⟨k_4.toArray⟩, .int .i64 k_5, .string ⟨k_6.toArray⟩, .slice k_7 k_8 k_9, .slice k_a k_b k_c] 28) = w5 at *
          obtain ⟨c0, c1, c2, c3, c4, c5, c6, c7⟩ := HK5.out.eight
          have cl := HK5.out.lt
          have hE5 := HE.out.on HB5.out
          obtain ⟨y0, y1, y2, y3, y4, y5, y6, y7⟩ := hE5.x.eight
          have yxl := hE5.x.lt
          have HE5 := Lib.hid hE5
          clear hE5
          have hs1 : (1 : Int) ≤ (ns.length : Int) + 1 := by omega
          obtain ⟨AJ, hAJ⟩ : ∃ AJ, (if e = 1 then some (⟨g0, o0, none⟩ : Addr) else some ⟨g0, o0 + 1, none⟩) = AJ := ⟨_, rfl⟩
          have HSJ := Lib.hid (show Strs w.cell? AJ ns by
            intro i nn hi
            have hil := (List.getElem?_eq_some_iff.1 hi).1
            obtain ⟨g1, o1', h1, h2⟩ := HST.out (i + 1) nn (by simpa using hi)
            injection h1 with h1
            injection h1 with h1 h3 _
            subst h1 h3
            refine ⟨g0, o0 + 1, by rw [← hAJ, if_neg (by omega)], ?_⟩
            rw [show o0 + (i + 1) = o0 + 1 + i by omega] at h2
            exact h2)
          have hb5w := HE5.out.below
          have HREC := Lib.hid (fun W (h : Below w5.heap.size w5 W) => ih hne S u x _ _ AJ (e - 1) W (fun b' hb' => Nat.lt_of_lt_of_le (HS.out b' hb') (Nat.le_trans hb5w.size h.size)) (In.keep (on_keep (fun _ h _ => h) (fun b' _ h2 => (hb5w.trans (h.mono hb5w.size)).block b' h2)) _ _ HYL.out) (In.keep (on_keep (fun _ h _ => h) (fun b' _ h2 => (hb5w.trans (h.mono hb5w.size)).block b' h2)) _ _ HX.out) (HSJ.out.keep (le_below (hb5w.trans (h.mono hb5w.size)))) (by omega) (by unfold maxLen; omega) (fun q hq => HNS.out q (List.mem_cons_of_mem _ hq)) HUN.out HUS.out)
          clear hb5w
          obtain ⟨R7, hR7⟩ : ∃ R7, Ed.edit op ns u x = R7 := ⟨_, rfl⟩
          rw [hR7] at HREC HEDN HZ2
          have HRR := Lib.hid hR7
          clear hR7
          go_cut [16, 17] from 59 to 59 (fun v16 v17 wc => ∃ (p16 : Nat) (cs : Array Value) (cd : Nat) (z : Vl), v16 = .pointer (some ⟨p16, 0, none⟩) ∧ v17 = .int .i64 cd ∧ Blk wc p16 28 cs ∧ z.In (wc.on fun b => S b ∨ w5.heap.size ≤ b) (.agg cs) ∧ w5.heap.size ≤ p16 ∧ Below w5.heap.size w5 wc ∧ ((cd = 0 ∧ R7 = .ok z) ∨ (0 < cd ∧ cd ≤ 14 ∧ R7 = .bad cd)))
          case first =>
            have HS5 := Lib.hid (show ∀ b', S b' → b' < w5.heap.size from fun b' hb' => Nat.lt_of_lt_of_le (HS.out b' hb') HE5.out.below.size)
            go_region_law (first | (go_simp; go_at_call 43; refine (HREC.out _ (by first | exact (Below.refl _ _).drew | exact ((Below.refl _ _).alloc (Nat.le_refl _) _).drew)).mono ?_; intro e9 w9 hp9; obtain ⟨y9, cd, z, rfl, hy, hb9, hres⟩ := hp9.parts; obtain ⟨j1, j2, j3, j4, j5, j6, j7, j8, j9, ja, jb, jc, rfl⟩ := In.cells hy; have HRES := Lib.hid hres; first | (have h8 : Blk w9 w5.heap.size 28 zeroC := (show Blk (World.drew (w5.alloc (.cells zeroC 28))) _ _ _ from Blk.new w5 _ _).on hb9; have h8c := h8.eight; have h8f := h8.frozen; have h8l := h8.lt; have H8 := Lib.hid h8; have HY := Lib.hid (conv_one hy); have HB9 := Lib.hid ((((Below.refl w5.heap.size w5).alloc (Nat.le_refl _) (.cells zeroC 28)).drew).trans (hb9.mono (by simp))); clear h8) | (have HY := Lib.hid (conv_two hy); have HB9 := Lib.hid (((Below.refl w5.heap.size w5).drew).trans (show Below w5.heap.size w5.drew w9 from hb9))); have hsz9 := HB9.out.size; clear hy hb9 hres hp9))
            all_goals
              go_wp2_with fail
              go_meet
              case rel => first
                | exact ⟨w5.heap.size, _, cd, z, rfl, rfl, H8.out.set8 _ _ _ _ _ _ _ _, fin_one HS5.out HY.out _ _ _ _ _ _ _ _, Nat.le_refl _, below_set8 HB9.out (Nat.le_refl _) _ _ _ _ _ _ _ _, HRES.out⟩
                | exact ⟨w9.heap.size, _, cd, z, rfl, rfl, Blk.new _ _ _, fin_two HY.out _, hsz9, HB9.out.alloc hsz9 _, HRES.out⟩
          case rest =>
            clear v0 v1 v2 v3 v4 v5 v6 v7 a0 a1 a2 a3 a4 a5 a6 a7 of ol c0 c1 c2 c3 c4 c5 c6 c7 cl y0 y1 y2 y3 y4 y5 y6 y7 yxl e0 e1 e2 e3 e4 e5 e6 e7
            obtain ⟨p16, cs, cd, z, rfl, rfl, hb16, hz, hp16, hbw, hres⟩ := hcut
            have hE7 := HE5.out.on hbw
            have hK7 := HK5.out.on hbw
            obtain ⟨j_1, j_2, j_3, j_4, j_5, j_6, j_7, j_8, j_9, j_a, j_b, j_c, hcs⟩ := In.cells hz
            injection hcs with hcs
            subst hcs
            rcases hres with ⟨hc9, hres⟩ | ⟨hc1, hc2, hres⟩
            · have hzz : zr = z := by rw [HZ2.out, hres]
              subst hzz
              have HR9 := Lib.hid (show Ed.edit op ns (l[j]?.getD x) x = .ok zr by rw [HGD.out, HRR.out, hres])
              clear hres
              obtain ⟨j0, j1, j2, j3, j4, j5, j6, j7⟩ := hb16.eight
              have jf := hb16.frozen
              have jl := hb16.lt
              obtain ⟨k0, k1, k2, k3, k4, k5, k6, k7⟩ := hK7.eight
              have hkf := hK7.frozen
              have hkl := hK7.lt
              have hcd0 : ((cd : Int) != 0) = false := by rw [hc9]; rfl
              clear hc9
              have hBK := HE.out.size
              have HB8 := Lib.hid (show Below wr.heap.size wr ((((((((wc.setCell ⟨wr.heap.size, 0, none⟩ (.int .i64 j_1)).setCell ⟨wr.heap.size, 1, none⟩ (.bool j_2)).setCell ⟨wr.heap.size, 2, none⟩ (.bool j_3)).setCell ⟨wr.heap.size, 3, none⟩ (.string ⟨j_4.toArray⟩)).setCell ⟨wr.heap.size, 4, none⟩ (.int .i64 j_5)).setCell ⟨wr.heap.size, 5, none⟩ (.string ⟨j_6.toArray⟩)).setCell ⟨wr.heap.size, 6, none⟩ (.slice j_7 j_8 j_9)).setCell ⟨wr.heap.size, 7, none⟩ (.slice j_a j_b j_c)) from below_set8 (HB5.out.trans (hbw.mono HB5.out.size)) (Nat.le_refl _) _ _ _ _ _ _ _ _)
              have HK8 := Lib.hid (show Blk ((((((((wc.setCell ⟨wr.heap.size, 0, none⟩ (.int .i64 j_1)).setCell ⟨wr.heap.size, 1, none⟩ (.bool j_2)).setCell ⟨wr.heap.size, 2, none⟩ (.bool j_3)).setCell ⟨wr.heap.size, 3, none⟩ (.string ⟨j_4.toArray⟩)).setCell ⟨wr.heap.size, 4, none⟩ (.int .i64 j_5)).setCell ⟨wr.heap.size, 5, none⟩ (.string ⟨j_6.toArray⟩)).setCell ⟨wr.heap.size, 6, none⟩ (.slice j_7 j_8 j_9)).setCell ⟨wr.heap.size, 7, none⟩ (.slice j_a j_b j_c)) wr.heap.size 28 #[.int .i64 j_1, .bool j_2, .bool j_3, .string ⟨j_4.toArray⟩, .int .i64 j_5, .string ⟨j_6.toArray⟩, .slice j_7 j_8 j_9, .slice j_a j_b j_c] from hK7.set8 _ _ _ _ _ _ _ _)
              have HZ8 := Lib.hid (show zr.In (((((((((wc.setCell ⟨wr.heap.size, 0, none⟩ (.int .i64 j_1)).setCell ⟨wr.heap.size, 1, none⟩ (.bool j_2)).setCell ⟨wr.heap.size, 2, none⟩ (.bool j_3)).setCell ⟨wr.heap.size, 3, none⟩ (.string ⟨j_4.toArray⟩)).setCell ⟨wr.heap.size, 4, none⟩ (.int .i64 j_5)).setCell ⟨wr.heap.size, 5, none⟩ (.string ⟨j_6.toArray⟩)).setCell ⟨wr.heap.size, 6, none⟩ (.slice j_7 j_8 j_9)).setCell ⟨wr.heap.size, 7, none⟩ (.slice j_a j_b j_c)).on (OffS S (w.heap.size + 4) Ar)) (.agg #[.int .i64 j_1, .bool j_2, .bool j_3, .string ⟨j_4.toArray⟩, .int .i64 j_5, .string ⟨j_6.toArray⟩, .slice j_7 j_8 j_9, .slice j_a j_b j_c]) from z_on (fun b' hb' => Nat.lt_of_lt_of_le (HS.out b' hb') (by omega)) hBK (by rw [HS50.out]; omega) (fun ad h => ⟨(hrl.2.2.2 ad h).1, (hrl.2.2.2 ad h).2⟩) hz _ _ _ _ _ _ _ _)
              clear hz hb16 hE7 hK7
              go_upto_region 25 with (fail)
              generalize ((((((((wc.setCell ⟨wr.heap.size, 0, none⟩ (.int .i64 j_1)).setCell ⟨wr.heap.size, 1, none⟩ (.bool j_2)).setCell ⟨wr.heap.size, 2, none⟩ (.bool j_3)).setCell ⟨wr.heap.size, 3, none⟩ (.string ⟨j_4.toArray⟩)).setCell ⟨wr.heap.size, 4, none⟩ (.int .i64 j_5)).setCell ⟨wr.heap.size, 5, none⟩ (.string ⟨j_6.toArray⟩)).setCell ⟨wr.heap.size, 6, none⟩ (.slice j_7 j_8 j_9)).setCell ⟨wr.heap.size, 7, none⟩ (.slice j_a j_b j_c)) = w8 at *
              obtain ⟨flat, hown, hone, hel⟩ := HROW.out
              have HOWN := Lib.hid hown
              have HONE := Lib.hid hone
              have HEL := Lib.hid hel
              have HB6 := Lib.hid (HB8.out.alloc HB8.out.size (.cells #[.int .i64 j_1, .bool j_2, .bool j_3, .string ⟨j_4.toArray⟩, .int .i64 j_5, .string ⟨j_6.toArray⟩, .slice j_7 j_8 j_9, .slice j_a j_b j_c] 28))
              have HOWN5 := Lib.hid (own_keep hown (fun k _ hk => HB6.out.block k hk))
              have HA5 := Lib.hid (show zr.In ((w8.alloc (.cells #[.int .i64 j_1, .bool j_2, .bool j_3, .string ⟨j_4.toArray⟩, .int .i64 j_5, .string ⟨j_6.toArray⟩, .slice j_7 j_8 j_9, .slice j_a j_b j_c] 28)).on (OffS S (w.heap.size + 4) Ar)) (.agg #[.int .i64 j_1, .bool j_2, .bool j_3, .string ⟨j_4.toArray⟩, .int .i64 j_5, .string ⟨j_6.toArray⟩, .slice j_7 j_8 j_9, .slice j_a j_b j_c]) from In.keep (on_keep (fun _ h _ => h) (fun b' _ h2 => Below.heap_alloc _ _ _ h2)) _ _ HZ8.out)
              obtain ⟨c0, c1, c2, c3, c4, c5, c6, c7⟩ := HK8.out.eight
              have cl := HK8.out.lt
              have b0 := (HE.out.o.on HB8.out).cell 6
              have bf := (HE.out.o.on HB8.out).frozen
              have bl := (HE.out.o.on HB8.out).lt
              clear hown hone hel
              go_wp2_with (refine wpList_append_lies _ rfl _ _ _ rfl (w.heap.size + 4) 28 i0 _ 8 112 Tryz.underlying25 hi0 hz0 hz1 hz2 rfl (by omega) (.slice Ar acc.length cp) acc.length flat rfl HOWN5.out ⟨w8.heap.size, 0, none⟩ 1 1 [.int .i64 j_1, .bool j_2, .bool j_3, .string ⟨j_4.toArray⟩, .int .i64 j_5, .string ⟨j_6.toArray⟩, .slice j_7 j_8 j_9, .slice j_a j_b j_c] rfl rfl (World.news_of_block (heap_alloc_new w8 _)) (by simp [Value.oneCell']) (by omega) (by unfold maxLen; omega) (by omega) (by simp; omega) _ rfl ?_; intro g6 cap6 w6 hown6 hgrow6 hat6 hlt6; have HST := Lib.hid (list_step HS.out HE.out HOWN.out HONE.out HEL.out HB6.out HA5.out (by intro u hu; simp at hu; rcases hu with rfl | rfl | rfl | rfl | rfl | rfl | rfl | rfl <;> rfl) hown6 hgrow6 hat6); have q6 := ((HE.out.on HB6.out).grown hgrow6 (fun k hk => own_new (fun ad h => (hrl.2.2.2 ad h).1) hk)).o.cell 6; have qf := ((HE.out.on HB6.out).grown hgrow6 (fun k hk => own_new (fun ad h => (hrl.2.2.2 ad h).1) hk)).o.frozen; have ql := ((HE.out.on HB6.out).grown hgrow6 (fun k hk => own_new (fun ad h => (hrl.2.2.2 ad h).1) hk)).o.lt; clear hown6 hgrow6 hat6)
              go_roundw
              case rel => exact ⟨j + 1, some ⟨g6, 0, none⟩, cap6, by go_num, EList.next hjn HFZ.out HST.out, fun _ _ => HR9.out⟩
              case measure => simp [intOf]; omega
            · have HR := Lib.hid (show Ed.edit op (nm :: ns) (.mk 4 b n s l m) x = .bad cd by rw [HEDN.out HQF.out, hres])
              have hcd : ((cd : Int) != 0) = true := by simp; omega
              obtain ⟨z0, z1, z2, z3, z4, z5, z6, z7⟩ := hE7.z.eight
              have zf := hE7.z.frozen
              have zl := hE7.z.lt
              have HE7 := Lib.hid hE7
              clear hE7 hres hz hb16 hK7
              go_wp2_with fail
              refine bodyPost_ret (results_row (l := [_, _, _, _, _, _, _, _]) rfl _ _ _ rfl (HE7.out.z.set8 _ _ _ _ _ _ _ _) Tryz.underlying28 rfl (by kernel_rfl)) rfl ?_
              exact ⟨below_set8 HE7.out.below (by have := HE7.out.e8; omega) _ _ _ _ _ _ _ _, .inr ⟨cd, _, HR.out, hc1, hc2, rfl, leaf_in _ 0 false Nm.Num.zero []⟩⟩
      · have hjq : ((j : Int) == (qi : Int)) = false := by rw [beq_eq_false_iff_ne]; omega
        by_cases hjl : j = l.length
        · obtain rfl : j = l.length := hjl
          have HF := Lib.hid (show Ed.outL op last l qi x zr (l.length + 1) = acc by rw [Ed.outL_succ, HAK.out, Ed.pieceL_end (by omega), List.append_nil])
          go_wp2_with fail
          go_roundw
          case rel => exact ⟨l.length + 1, Ar, cp, by go_num, EList.same hjn HF.out HE.out HROW.out, fun h1 h2 => HRJ.out h1 (by omega)⟩
          case measure => simp [intOf]
        · have hjl' : ((j : Int) == (l.length : Int)) = false := by rw [beq_eq_false_iff_ne]; omega
          have hlt : j < l.length := by omega
          have HF := Lib.hid (show Ed.outL op last l qi x zr (j + 1) = acc ++ [l[j]] by rw [Ed.outL_succ, HAK.out, Ed.pieceL_far hlt hji])
          obtain ⟨gl, ol', yl, rfl, hyl, hcl⟩ := HL.out j _ (List.getElem?_eq_getElem hlt)
          obtain ⟨k_1, k_2, k_3, k_4, k_5, k_6, k_7, k_8, k_9, k_a, k_b, k_c, rfl⟩ := In.cells hyl
          obtain ⟨e0, e1, e2, e3, e4, e5, e6, e7⟩ := (hcl.keep ((on_all w S).trans (le_below HE.out.below))).eight
          have HYL := Lib.hid hyl
          have hgl := World.block_lt_of_cell? _ _ e0
          generalize l[j] = u at *
          clear hyl hcl
          have HB5 := Lib.hid ((Below.refl wr.heap.size wr).alloc (Nat.le_refl _) (.cells #[.int .i64 k_1, .bool k_2, .bool k_3, .string ⟨k_4.toArray⟩, .int .i64 k_5, .string ⟨k_6.toArray⟩, .slice k_7 k_8 k_9, .slice k_a k_b k_c] 28))
          have HK5 := Lib.hid (Blk.new wr 28 #[.int .i64 k_1, .bool k_2, .bool k_3, .string ⟨k_4.toArray⟩, .int .i64 k_5, .string ⟨k_6.toArray⟩, .slice k_7 k_8 k_9, .slice k_a k_b k_c])
          go_upto_region 25 with (fail)
          generalize wr.alloc (.cells #[.int .i64 k_1, .bool k_2, .bool k_3, .string ⟨k_4.toArray⟩, .int .i64 k_5, .string ⟨k_6.toArray⟩, .slice k_7 k_8 k_9, .slice k_a k_b k_c] 28) = w5 at *
          obtain ⟨flat, hown, hone, hel⟩ := HROW.out
          have HOWN := Lib.hid hown
          have HONE := Lib.hid hone
          have HEL := Lib.hid hel
          have HB6 := Lib.hid (HB5.out.alloc HB5.out.size (.cells #[.int .i64 k_1, .bool k_2, .bool k_3, .string ⟨k_4.toArray⟩, .int .i64 k_5, .string ⟨k_6.toArray⟩, .slice k_7 k_8 k_9, .slice k_a k_b k_c] 28))
          have HOWN5 := Lib.hid (own_keep hown (fun k _ hk => HB6.out.block k hk))
          have HA5 := Lib.hid (In.keep (off_of HS.out (by omega) (HE.out.below.trans (HB6.out.mono HE.out.below.size)) (fun ad h => (hrl.2.2.2 ad h).1)) _ _ HYL.out)
          obtain ⟨c0, c1, c2, c3, c4, c5, c6, c7⟩ := HK5.out.eight
          have cl := HK5.out.lt
          have b0 := (HE.out.o.on HB5.out).cell 6
          have bf := (HE.out.o.on HB5.out).frozen
          have bl := (HE.out.o.on HB5.out).lt
          have hs5 := HB5.out.size
          clear hown hone hel
          go_wp2_with (refine wpList_append_lies _ rfl _ _ _ rfl (w.heap.size + 4) 28 i0 _ 8 112 Tryz.underlying25 hi0 hz0 hz1 hz2 rfl (by omega) (.slice Ar acc.length cp) acc.length flat rfl HOWN5.out ⟨w5.heap.size, 0, none⟩ 1 1 [.int .i64 k_1, .bool k_2, .bool k_3, .string ⟨k_4.toArray⟩, .int .i64 k_5, .string ⟨k_6.toArray⟩, .slice k_7 k_8 k_9, .slice k_a k_b k_c] rfl rfl (World.news_of_block (heap_alloc_new w5 _)) (by simp [Value.oneCell']) (by omega) (by unfold maxLen; omega) (by omega) (by simp; omega) _ rfl ?_; intro g6 cap6 w6 hown6 hgrow6 hat6 hlt6; have HST := Lib.hid (list_step HS.out HE.out HOWN.out HONE.out HEL.out HB6.out HA5.out (by intro u hu; simp at hu; rcases hu with rfl | rfl | rfl | rfl | rfl | rfl | rfl | rfl <;> rfl) hown6 hgrow6 hat6); have q6 := ((HE.out.on HB6.out).grown hgrow6 (fun k hk => own_new (fun ad h => (hrl.2.2.2 ad h).1) hk)).o.cell 6; have qf := ((HE.out.on HB6.out).grown hgrow6 (fun k hk => own_new (fun ad h => (hrl.2.2.2 ad h).1) hk)).o.frozen; have ql := ((HE.out.on HB6.out).grown hgrow6 (fun k hk => own_new (fun ad h => (hrl.2.2.2 ad h).1) hk)).o.lt; clear hown6 hgrow6 hat6)

          go_roundw
          case rel => exact ⟨j + 1, some ⟨g6, 0, none⟩, cap6, by go_num, EList.next hjn HF.out HST.out, fun h1 h2 => HRJ.out h1 (by omega)⟩
          case measure => simp [intOf]; omega

end Go.Proofs.YtjjenpmahmbafaaGreatDoor

