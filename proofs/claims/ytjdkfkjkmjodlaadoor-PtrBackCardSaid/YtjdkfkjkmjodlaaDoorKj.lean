/- The laws of layer 6 (ptr): PtrBack. -/
import Derived.Test.YtjdkfkjkmjodlaaDoorKh
import Derived.Test.YtjdkfkjkmjodlaaDoorPv
import Derived.Test.YtjdkfkjkmjodlaaDoorMr
import Derived.Test.YtjdkfkjkmjodlaaDoorMq
import Derived.BigQuiet
namespace Go.Proofs.YtjdkfkjkmjodlaaDoor
open Go.RowKit Pt

/-- An append of what may be nil, at an operation that is wanted. -/
theorem wpList_append_src_w {P : Program} (w : World) {ops : Array Oper} {rest : List Oper} {o : Oper} {a : Act} {Q : Exit → Act → World → Prop} (hw : Region.wanted o (yielded ops a.tmps) = true) (s x : Operand) (t : TypeId)
    (ho : o.op = .call { callee := .builtin .append, args := #[s, x], argTypes := #[t, t] })
    (base : Nat) (e : TypeId) (i : TypeInfo) (z : Value) (size bytes : Nat) (ht : P.underlying t = some (.slice e)) (hi : P.info? e = some i) (hz : i.zero = some z)
    (hsize : i.size = size) (hby : i.bytes = bytes) (hzs : z.cells.size = size) (hsz : 0 < size)
    (v : Value) (n : Nat) (xs : List Value) (hs : a.eval s = v) (hown : w.ownsRow base e size v n xs)
    (A : Option Addr) (m c : Nat) (news : List Value) (hx : a.eval x = .slice A m c) (hl : news.length = m * size) (hsrc : Src w A m c news) (h1 : ∀ u ∈ news, u.oneCell' = true)
    (h63 : n + m ≤ maxLen) (hbytes : (n + m) * bytes ≤ 140737488355328) (hbase : base ≤ w.heap.size) (N : Nat) (hN : n + m = N)
    (h : ∀ A' c' w', w'.ownsRow base e size (.slice A' N c') N (xs ++ news) → w.grownBy w' v.ownBlock → ((Value.slice A' N c').ownBlock = v.ownBlock ∨ (Value.slice A' N c').ownBlock = some w.heap.size) → wpList P ops Q rest (a.put o.dst (.slice A' N c')) w') :
    wpList P ops Q (o :: rest) a w := by
  refine wpList_step fun K hK => ?_
  rw [if_pos hw]
  subst hN
  obtain ⟨v', w', hrun, k1, k2, k3⟩ : ∃ v' w', (Builtin.append_ #[t, t] o.type #[v, .slice A m c]).run P w = .ok v' w' ∧ w'.ownsRow base e size v' (n + m) (xs ++ news) ∧ w.grownBy w' v.ownBlock ∧ (v'.ownBlock = v.ownBlock ∨ v'.ownBlock = some w.heap.size) := by
    rcases hsrc with ⟨rfl, rfl, rfl, rfl⟩ | ⟨ad, rfl, hc⟩
    · exact ⟨v, w, run_append_owned_none w base t o.type e i size ht hi v n xs hown, by simpa using hown, World.grownBy.refl w _, .inl rfl⟩
    · obtain ⟨v', w', r1, r2, r3, _, r5⟩ := run_append_own_at (P := P) w base t o.type e i z size bytes ht hi hz hsize hby hzs hsz v n xs hown ad m c news hl hc h1 h63 hbytes hbase
      exact ⟨v', w', r1, r2, r3, r5⟩
  obtain ⟨A', c', rfl⟩ := own_form k1
  unfold Oper.wp
  simp [execOp, ho, resolve, invoke, builtin, hs, hx, hrun, Result.andThen]
  exact hK _ _ (h A' c' w' k1 k2 k3)

/-- Strings in memory, to be appended. -/
theorem src_strs {w : World} {A : Option Addr} {l : List (List UInt8)} {e : Nat} (h : Strs w.cell? A l) (hA : A = none → l.length = 0 ∧ e = 0) : Src w A l.length e (strs l) := by
  cases A with
  | none =>
    obtain ⟨h1, h2⟩ := hA rfl
    exact .inl ⟨rfl, h1, h2, by rw [List.eq_nil_of_length_eq_zero h1]; rfl⟩
  | some ad =>
    refine .inr ⟨ad, rfl, fun j u hu => ?_⟩
    have hj : j < l.length := by have := (List.getElem?_eq_some_iff.1 hu).1; simpa [strs] using this
    obtain ⟨g, o, h1, h2⟩ := h j _ (List.getElem?_eq_getElem hj)
    injection h1 with h1
    subst h1
    have hu2 : u = .string ⟨l[j].toArray⟩ := by
      have : (strs l)[j]? = some (.string ⟨l[j].toArray⟩) := by simp [strs, hj]
      rw [this] at hu; injection hu with hu; exact hu.symm
    have e9 : (⟨g, o, none⟩ : Addr).add j = ⟨g, o + j, none⟩ := by
      unfold Addr.add
      by_cases hj0 : j = 0 <;> simp [hj0]
    rw [hu2, e9]
    exact h2
theorem one_strs (l : List (List UInt8)) : ∀ u ∈ strs l, u.oneCell' = true := by
  intro u hu
  obtain ⟨n, _, rfl⟩ := List.mem_map.1 hu
  rfl
theorem own_idx {w : World} {B n c j : Nat} {A : Option Addr} {L : List (List UInt8)} (h : w.ownsRow B 9 1 (.slice A n c) n (strs L)) (hj : j < L.length) :
    ∃ g, A = some ⟨g, 0, none⟩ ∧ w.cell? ⟨g, j, none⟩ = some (.string ⟨L[j].toArray⟩) := by
  have hn : n = L.length := by have := h.1; rw [strs_length] at this; omega
  subst hn
  have ho := h
  obtain ⟨hl, ⟨h, h0⟩ | ⟨g, cap, cur, hv, hb, hc, h1, h2, h3, h4⟩⟩ := h
  · omega
  · injection hv with ha _ hcap
    subst ha hcap
    exact ⟨g, rfl, (own_at ho (show (strs L)[j]? = some (.string ⟨L[j].toArray⟩) by simp [strs, hj])).1⟩
theorem own_strs2 {w : World} {B n c : Nat} {A : Option Addr} {l m : List (List UInt8)} (h : w.ownsRow B 9 1 (.slice A n c) n (strs l ++ strs m)) : Strs w.cell? A (l ++ m) ∧ n = (l ++ m).length ∧ n ≤ c ∧ c ≤ maxLen := by
  rw [← strs_append] at h
  have hn : n = (l ++ m).length := by have := h.1; rw [strs_length] at this; omega
  have hl := own_le h
  refine ⟨fun i q hi => ?_, hn, hl.1, hl.2.1⟩
  obtain ⟨hil, hq⟩ := List.getElem?_eq_some_iff.1 hi
  obtain ⟨g, h1, h2⟩ := own_idx h hil
  rw [hq] at h2
  exact ⟨g, 0, h1, by rw [Nat.zero_add]; exact h2⟩

/-- How far the law has looked at the names. -/
def Backing (L : List (List UInt8)) (w : World) (v : Value) (wr : World) : Prop :=
  ∃ j : Nat, j ≤ L.length ∧ v = .int .i64 j ∧ (∀ n ∈ L.take j, n.length ≤ 100) ∧ Below w.heap.size w wr

set_option linter.unusedVariables false in
set_option linter.unusedSimpArgs false in
set_option maxRecDepth 100000 in
set_option maxHeartbeats 2000000 in
theorem ptrBack_any (l m : List (List UInt8)) (A B : Option Addr) (e d : Nat) (t : List UInt8) (w : World) (hT : MaxT w) (hs : Strs w.cell? A l) (hu : Strs w.cell? B m) (hA : A = none → l.length = 0 ∧ e = 0) (hB : B = none → m.length = 0 ∧ d = 0)
    (he : l.length ≤ e) (hm : e ≤ maxLen) (hd : m.length ≤ d) (hdm : d ≤ maxLen) (ht : t.length ≤ 1000000000000000000) :
    Calls Tryd.prog 4 #[.slice A l.length e, .slice B m.length d, .string ⟨t.toArray⟩] w fun e w' => e = .returned (.bool true) ∧ Below w.heap.size w w' := by
  have HU := Lib.hid (up6_any w hT)
  have HT := Lib.hid hT
  have HS := Lib.hid hs
  have HM := Lib.hid hu
  have HA := Lib.hid hA
  have HBN := Lib.hid hB
  clear hT hs hu hA hB
  have hee : (l.length : Int) ≤ (e : Int) := by omega
  have hdd : (m.length : Int) ≤ (d : Int) := by omega
  unfold maxLen at hm hdm
  obtain ⟨i0, hi0, hz0, hz1, hz2⟩ := info_parts infoString
  go_enter Tryd.func4, Tryd.ntmps4
  go_wp2_with fail
  refine HU.out.mono ?_
  rintro e1 w0 ⟨rfl, hb0⟩
  have HB0 := Lib.hid hb0
  have HS0 := Lib.hid (HS.out.keep (le_below hb0))
  have HM0 := Lib.hid (HM.out.keep (le_below hb0))
  clear hb0 HU HS HM
  by_cases g1 : 20 < l.length
  · have g1' : (20 : Int) < (l.length : Int) := by omega
    go_wp2_with fail
    go_ret
    exact ⟨rfl, HB0.out⟩
  have g1' : ¬ (20 : Int) < (l.length : Int) := by omega
  by_cases g2 : 20 < m.length
  · have g2' : (20 : Int) < (m.length : Int) := by omega
    go_wp2_with fail
    go_ret
    exact ⟨rfl, HB0.out⟩
  have g2' : ¬ (20 : Int) < (m.length : Int) := by omega
  by_cases g3 : 500 < t.length
  · have g3' : (500 : Int) < (t.length : Int) := by omega
    go_wp2_with fail
    go_ret
    exact ⟨rfl, HB0.out⟩
  have g3' : ¬ (500 : Int) < (t.length : Int) := by omega
  have hlm : (l ++ m).length = l.length + m.length := List.length_append
  go_wp2_with fail
  go_loopw [8] (Backing (l ++ m) w0) (fun v _ => (l ++ m).length - (intOf v).toNat)
  case atStart => exact ⟨0, by omega, rfl, fun _ h => by simp at h, Below.refl _ _⟩
  case round =>
  obtain ⟨j, hj, rfl, hsm, hbr⟩ := hrel
  have HSM := Lib.hid hsm
  have HBR := Lib.hid hbr
  have HSR := Lib.hid (HS0.out.keep (le_below hbr))
  have HMR := Lib.hid (HM0.out.keep (le_below hbr))
  clear hsm hbr
  have HOWNE := Lib.hid (fun (W : World) (h : w0.heap.size ≤ W.heap.size) => show (W.alloc (.cells #[] 9)).ownsRow w0.heap.size 9 1 (.slice (some ⟨W.heap.size, 0, none⟩) 0 0) 0 [] from World.ownsRow_lit W #[] 0 h (by unfold maxLen; omega) rfl)
  by_cases hlt : j < (l ++ m).length
  · have hlt' : (j : Int) < (l.length : Int) + (m.length : Int) := by omega
    have hsz := HBR.out.size
    obtain ⟨nj, hnj⟩ : ∃ nj, (l ++ m)[j]'hlt = nj := ⟨_, rfl⟩
    have HTK := Lib.hid (show ∀ q ∈ (l ++ m).take (j + 1), q ∈ (l ++ m).take j ∨ q = nj by
      intro q hq
      rw [List.take_succ_eq_append_getElem hlt, hnj] at hq
      rcases List.mem_append.1 hq with h | h
      · exact .inl h
      · exact .inr (List.mem_singleton.1 h))
    have HNJ := Lib.hid hnj
    clear hnj
    have HSZ := Lib.hid HBR.out.size
    have HSRC := Lib.hid (src_strs (HSR.out.keep (le_alloc wr (.cells #[] 9))) HA.out)
    by_cases hn : 100 < nj.length
    · have hn' : (100 : Int) < (nj.length : Int) := by omega
      go_wp2_with (first
        | (at_builtin; refine wpList_append_src_w _ (by rfl) _ _ _ rfl w0.heap.size 9 i0 _ 1 16 Tryd.underlying22 hi0 hz0 hz1 hz2 rfl (by omega) (.slice (some ⟨wr.heap.size, 0, none⟩) 0 0) 0 [] rfl (HOWNE.out wr HSZ.out) A l.length e (strs l) rfl (by simp [strs]) HSRC.out (one_strs l) (by unfold maxLen; omega) (by omega) (by have := HSZ.out; simp; omega) l.length (by omega) ?_; intro A2 c2 w14 hown14 hg14 hat14; have hb14 := grown_new' hg14; have hnew14 := new_of (b := wr.heap.size) (fun ad e => by cases e; exact Nat.le_refl _) (by simp) hat14; have HOWN14 := Lib.hid (show w14.ownsRow w0.heap.size 9 1 (.slice A2 l.length c2) l.length (strs l) from hown14); have HB14 := Lib.hid hb14; have HNEW14 := Lib.hid hnew14; have HSRC2 := Lib.hid (src_strs (HMR.out.keep (le_below hb14)) HBN.out); have hz14 := hb14.size; clear hown14 hg14 hat14 hb14 hnew14)
        | (at_builtin; refine wpList_append_src_w _ (by rfl) _ _ _ rfl w0.heap.size 9 i0 _ 1 16 Tryd.underlying22 hi0 hz0 hz1 hz2 rfl (by omega) (.slice A2 l.length c2) l.length (strs l) rfl HOWN14.out B m.length d (strs m) rfl (by simp [strs]) HSRC2.out (one_strs m) (by unfold maxLen; omega) (by omega) (by have := HSZ.out; omega) (l.length + m.length) rfl ?_; intro A3 c3 w15 hown15 hg15 hat15; have hb15 := HB14.out.grown hg15 (by omega) (fun k hk => own_new HNEW14.out hk); have HB15 := Lib.hid hb15; have HOWN15 := Lib.hid (show w15.ownsRow w0.heap.size 9 1 (.slice A3 (l.length + m.length) c3) (l.length + m.length) (strs (l ++ m)) by rw [strs_append]; exact hown15); obtain ⟨g3, rfl, hc15⟩ := own_idx HOWN15.out hlt; rw [HNJ.out] at hc15; clear hown15 hg15 hat15 hb15 hz14))
      go_ret
      exact ⟨rfl, HB0.out.trans ((HBR.out.trans (HB15.out.mono HSZ.out)).mono HB0.out.size)⟩
    · have hn' : ¬ (100 : Int) < (nj.length : Int) := by omega
      go_wp2_with (first
        | (at_builtin; refine wpList_append_src_w _ (by rfl) _ _ _ rfl w0.heap.size 9 i0 _ 1 16 Tryd.underlying22 hi0 hz0 hz1 hz2 rfl (by omega) (.slice (some ⟨wr.heap.size, 0, none⟩) 0 0) 0 [] rfl (HOWNE.out wr HSZ.out) A l.length e (strs l) rfl (by simp [strs]) HSRC.out (one_strs l) (by unfold maxLen; omega) (by omega) (by have := HSZ.out; simp; omega) l.length (by omega) ?_; intro A2 c2 w14 hown14 hg14 hat14; have hb14 := grown_new' hg14; have hnew14 := new_of (b := wr.heap.size) (fun ad e => by cases e; exact Nat.le_refl _) (by simp) hat14; have HOWN14 := Lib.hid (show w14.ownsRow w0.heap.size 9 1 (.slice A2 l.length c2) l.length (strs l) from hown14); have HB14 := Lib.hid hb14; have HNEW14 := Lib.hid hnew14; have HSRC2 := Lib.hid (src_strs (HMR.out.keep (le_below hb14)) HBN.out); have hz14 := hb14.size; clear hown14 hg14 hat14 hb14 hnew14)
        | (at_builtin; refine wpList_append_src_w _ (by rfl) _ _ _ rfl w0.heap.size 9 i0 _ 1 16 Tryd.underlying22 hi0 hz0 hz1 hz2 rfl (by omega) (.slice A2 l.length c2) l.length (strs l) rfl HOWN14.out B m.length d (strs m) rfl (by simp [strs]) HSRC2.out (one_strs m) (by unfold maxLen; omega) (by omega) (by have := HSZ.out; omega) (l.length + m.length) rfl ?_; intro A3 c3 w15 hown15 hg15 hat15; have hb15 := HB14.out.grown hg15 (by omega) (fun k hk => own_new HNEW14.out hk); have HB15 := Lib.hid hb15; have HOWN15 := Lib.hid (show w15.ownsRow w0.heap.size 9 1 (.slice A3 (l.length + m.length) c3) (l.length + m.length) (strs (l ++ m)) by rw [strs_append]; exact hown15); obtain ⟨g3, rfl, hc15⟩ := own_idx HOWN15.out hlt; rw [HNJ.out] at hc15; clear hown15 hg15 hat15 hb15 hz14))
      go_roundw
      case rel => exact ⟨j + 1, by omega, by go_num, fun q hq => (HTK.out q hq).elim (HSM.out q) (fun h => by rw [h]; omega), HBR.out.trans (HB15.out.mono HSZ.out)⟩
      case measure => simp [intOf]; omega
  obtain rfl : j = (l ++ m).length := by omega
  have HNS := Lib.hid (show ∀ q ∈ l ++ m, q.length ≤ 100 by have := HSM.out; rwa [List.take_length] at this)
  have htl : (text l).length ≤ 10000 := by
    have h1 := text_len 100 l (fun q hq => HNS.out q (List.mem_append_left _ hq))
    have h2 : l.length * (2 * 100 + 1) ≤ 20 * (2 * 100 + 1) := Nat.mul_le_mul_right _ (by omega)
    omega
  have htm : (text m).length ≤ 10000 := by
    have h1 := text_len 100 m (fun q hq => HNS.out q (List.mem_append_right _ hq))
    have h2 : m.length * (2 * 100 + 1) ≤ 20 * (2 * 100 + 1) := Nat.mul_le_mul_right _ (by omega)
    omega
  have hge : ¬ (((l ++ m).length : Nat) : Int) < (l.length : Int) + (m.length : Int) := by omega
  have HS1 := Lib.hid (ptrShow_any l A e wr (HT.out.on (HB0.out.trans (HBR.out.mono HB0.out.size))) HSR.out he (by unfold maxLen; omega) (by omega))
  have HS2 := Lib.hid (fun W (h : Below wr.heap.size wr W) => ptrShow_any m B d W (HT.out.on (HB0.out.trans ((HBR.out.trans (h.mono HBR.out.size)).mono HB0.out.size))) (HMR.out.keep (le_below h)) hd (by unfold maxLen; omega) (by omega))
  have hcat := fun W => cat_lists W (text l) (text m) (by omega)
  rw [← text_append] at hcat
  have HLT := Lib.hid (show (text (l ++ m)).length ≤ 100000 by rw [text_append, List.length_append]; omega)
  have HPT := Lib.hid (parse_text (l ++ m))
  clear HSM hlt htl htm HNS
  generalize text l = tl at *
  generalize text m = tm at *
  generalize htlm : text (l ++ m) = tlm at *
  go_wp2_with fail
  refine HS1.out.mono ?_
  rintro e3 w3 ⟨rfl, hb3⟩
  have HB3 := Lib.hid hb3
  go_wp2_with fail
  refine (HS2.out _ hb3).mono ?_
  rintro e4 w4 ⟨rfl, hb4⟩
  have HB4 := Lib.hid (HB3.out.trans (hb4.mono HB3.out.size))
  clear hb3 hb4 HB3 HS1 HS2
  have HP4 := Lib.hid (ptrParse_any tlm w4 (HT.out.on (HB0.out.trans ((HBR.out.trans (HB4.out.mono HBR.out.size)).mono HB0.out.size))) HLT.out)
  go_wp2_with fail
  refine HP4.out.mono ?_
  intro e5 w5 h5
  obtain ⟨A5, rfl, hs5, hb5⟩ := h5.ok HPT.out
  have HB5 := Lib.hid (HB4.out.trans (hb5.mono HB4.out.size))
  have HS5 := Lib.hid hs5
  have HBZ := Lib.hid (HBR.out.trans (HB5.out.mono HBR.out.size))
  have HSZ := Lib.hid HBZ.out.size
  have HL5 := Lib.hid (HS0.out.keep (le_below HBZ.out))
  have HM5 := Lib.hid (HM0.out.keep (le_below HBZ.out))
  have HSRC := Lib.hid (src_strs (HL5.out.keep (le_alloc w5 (.cells #[] 9))) HA.out)
  clear h5 hs5 hb5 HP4 HB4
  go_wp2_with (first
    | (at_builtin; refine wpList_append_src_w _ (by rfl) _ _ _ rfl w0.heap.size 9 i0 _ 1 16 Tryd.underlying22 hi0 hz0 hz1 hz2 rfl (by omega) (.slice (some ⟨w5.heap.size, 0, none⟩) 0 0) 0 [] rfl (HOWNE.out w5 HSZ.out) A l.length e (strs l) rfl (by simp [strs]) HSRC.out (one_strs l) (by unfold maxLen; omega) (by omega) (by have := HSZ.out; simp; omega) l.length (by omega) ?_; intro A2 c2 w14 hown14 hg14 hat14; have hb14 := grown_new' hg14; have hnew14 := new_of (b := w5.heap.size) (fun ad e => by cases e; exact Nat.le_refl _) (by simp) hat14; have HOWN14 := Lib.hid (show w14.ownsRow w0.heap.size 9 1 (.slice A2 l.length c2) l.length (strs l) from hown14); have HB14 := Lib.hid hb14; have HNEW14 := Lib.hid hnew14; have HSRC2 := Lib.hid (src_strs (HM5.out.keep (le_below hb14)) HBN.out); have hz14 := hb14.size; clear hown14 hg14 hat14 hb14 hnew14)
    | (at_builtin; refine wpList_append_src_w _ (by rfl) _ _ _ rfl w0.heap.size 9 i0 _ 1 16 Tryd.underlying22 hi0 hz0 hz1 hz2 rfl (by omega) (.slice A2 l.length c2) l.length (strs l) rfl HOWN14.out B m.length d (strs m) rfl (by simp [strs]) HSRC2.out (one_strs m) (by unfold maxLen; omega) (by omega) (by have := HSZ.out; omega) (l.length + m.length) rfl ?_; intro A3 c3 w15 hown15 hg15 hat15; have hb15 := HB14.out.grown hg15 (by omega) (fun k hk => own_new HNEW14.out hk); have HB15 := Lib.hid hb15; have HOWN15 := Lib.hid (show w15.ownsRow w0.heap.size 9 1 (.slice A3 (l.length + m.length) c3) (l.length + m.length) (strs (l ++ m)) by rw [strs_append]; exact hown15); have HST15 := Lib.hid (own_strs2 hown15); clear hown15 hg15 hat15 hb15 hz14))
  obtain ⟨q1, q2, q3, q4⟩ := HST15.out
  have HNM := names_any (l ++ m) (l ++ m) A5 A3 (l ++ m).length c3 w15 (HS5.out.keep (le_below HB15.out)) q1 (Nat.le_refl _) (by unfold maxLen; omega) (by omega) q4
  rw [alike_eq rfl, hlm] at HNM
  have HNM2 := Lib.hid HNM
  have HB6 := Lib.hid (HBZ.out.trans (HB15.out.mono HSZ.out))
  clear HNM q1 q2 q3 HS5 HL5 HM5 HST15 HOWN15 HOWN14 HSRC HSRC2
  refine HNM2.out.mono ?_
  rintro e6 w6 ⟨rfl, hb6⟩
  have HB7 := Lib.hid (HB6.out.trans (hb6.mono HB6.out.size))
  have HB8 := Lib.hid (HB0.out.trans (HB7.out.mono HB0.out.size))
  have HP6 := Lib.hid (ptrParse_any t w6 (HT.out.on HB8.out) (by omega))
  clear hb6
  go_wp2_with fail
  refine HP6.out.mono ?_
  intro e7 w7 h7
  cases hp : parse t with
  | ok r =>
    obtain ⟨A7, rfl, hs7, hb7⟩ := h7.ok hp
    obtain ⟨hx1, hx2⟩ := parse_back hp
    have HB9 := Lib.hid (HB8.out.trans (hb7.mono HB8.out.size))
    have HSW := ptrShow_any r A7 r.length w7 (HT.out.on HB9.out) hs7 (Nat.le_refl _) (by unfold maxLen; omega) (by rw [hx1]; omega)
    rw [hx1] at HSW
    have HSW2 := Lib.hid HSW
    clear HSW h7 hs7 hb7 hx1
    go_wp2_with fail
    refine HSW2.out.mono ?_
    rintro e8 w8 ⟨rfl, hb8⟩
    have htt : (t == t) = true := by simp
    go_wp2_with fail
    go_ret
    exact ⟨rfl, HB9.out.trans (hb8.mono HB9.out.size)⟩
  | bad p =>
    obtain ⟨b, rfl, _, hb7⟩ := h7.bad hp
    have HB9 := Lib.hid (HB8.out.trans (hb7.mono HB8.out.size))
    clear h7 hb7
    go_wp2_with fail
    go_ret
    exact ⟨rfl, HB9.out⟩

end Go.Proofs.YtjdkfkjkmjodlaaDoor

