/- The laws of layer 7 (edit): EditBack. -/
import Derived.Test.YtmdpjhcghdjmmaaJo
import Derived.Test.YtmdpjhcghdjmmaaJr
import Derived.Test.YtmdpjhcghdjmmaaPh
import Derived.Test.YtmdpjhcghdjmmaaYb
import Derived.Test.YtmdpjhcghdjmmaaLa
import Derived.Deep.CutRange
namespace Go.Proofs.Ytmdpjhcghdjmmaa
open Go.RowKit Pt Js

/-- A value in a block of its own. -/
def Bx (w : World) (g : Nat) (v : Vl) (cs : Array Value) : Prop := Blk w g 28 cs ∧ v.In w.cell? (.agg cs)
theorem Bx.on {w w' : World} {g : Nat} {v : Vl} {cs : Array Value} (h : Bx w g v cs) (hb : Below w.heap.size w w') : Bx w' g v cs := ⟨h.1.on hb, In.keep (le_below hb) _ _ h.2⟩
/-- What Value of the laws tells, where its text may be shown. -/
def Told7 (w : World) (e : Ending) (w' : World) : Prop :=
  ∃ (v : Vl) (x : Value) (c : Int), e = .returned (.tuple #[x, .int .i64 c]) ∧ v.In w'.cell? x ∧ Below w.heap.size w w' ∧ (c = 0 ∨ (c = 1 ∧ Fine v ∧ v.shown.length ≤ 20000))
theorem value_told7 (s : ByteArray) (hs : s.size ≤ 1000000000000000000) (w : World) : Calls Try.prog 6 #[.string s] w (Told7 w) := by
  refine (value_law s hs w).mono ?_
  rintro e w' ⟨hb, ⟨x, rfl, hin⟩ | ⟨v, u, x, hsz, hp, rfl, hin⟩⟩
  · exact ⟨_, x, 0, rfl, In.keep (le_on _ _) _ _ hin, hb, .inl rfl⟩
  · have hl : s.data.toList.length ≤ 2000 := by rw [← Lib.size_eq]; exact hsz
    have hr := Ps.parse_room hp
    exact ⟨v, x, 1, rfl, In.keep (le_on _ _) _ _ hin, hb, .inr ⟨rfl, fine_of hl hp, by omega⟩⟩
/-- What an edit's error stands as. -/
def evOf : Ed.Ch → Value
  | .ok _ => .nilIface
  | .bad c => .iface 54 (.int .i64 c)
/-- An edit, told: the value, and its error. -/
def EditV (r : Ed.Ch) (w : World) (e : Ending) (w' : World) : Prop := ∃ y ev, e = .returned (.tuple #[y, ev]) ∧ ev = evOf r ∧ (Ed.resZ r).In w'.cell? y ∧ Below w.heap.size w w'
theorem EditE.v {op : Nat} {ns : List (List UInt8)} {v x : Vl} {r : Ed.Ch} (hr : Ed.edit op ns v x = r) {w : World} {e : Ending} {w' : World} (h : EditE (Ed.edit op ns v x) w e w') : EditV r w e w' := by
  obtain ⟨y, h1, h2, h3⟩ := h
  rw [hr] at h1 h2
  refine ⟨y, _, h1, ?_, h2, h3⟩
  cases r with
  | ok z => rfl
  | bad c => rcases Ed.edit_bad ns hr with rfl | rfl <;> rfl
/-- Get, told. -/
def GetV (r : Option Vl) (w : World) (e : Ending) (w' : World) : Prop := ∃ y, e = .returned (.tuple #[y, .bool r.isSome]) ∧ (r.getD Ps.mkN).In w'.cell? y ∧ Below w.heap.size w w'
theorem get_told {v : Vl} {ns : List (List UInt8)} {x : Value} {A : Option Addr} {e : Nat} {w : World} {r : Option Vl} {n : Nat} (hn : n = ns.length) (hr : get v ns = r) (hx : v.In w.cell? x) (hs : Strs w.cell? A ns) (he : n ≤ e) (hm : e ≤ maxLen) (hns : ∀ n ∈ ns, n.length ≤ 1000000) (hsz : v.size ≤ 1000000) :
    Calls Try.prog 15 #[x, .slice A n e] w (GetV r w) := by
  subst hn
  refine (refGet_any ns w.cell? v x A e w (Cl.le.refl _) hx hs he hm hns hsz).mono ?_
  rintro e' w' ⟨hb, ⟨u, y, h1, rfl, h3⟩ | ⟨h1, y, rfl, h3⟩⟩
  · rw [← hr, h1]; exact ⟨y, rfl, In.keep (le_below hb) _ _ h3, hb⟩
  · rw [← hr, h1]; exact ⟨y, rfl, In.keep (le_below hb) _ _ h3, hb⟩
theorem kid_small {v y : Vl} {nm : List UInt8} (h : Ed.kid v nm = some y) : y.size ≤ v.size := by
  obtain ⟨k, b, n, s, l, m⟩ := v
  rw [Ed.kid_mk] at h
  split at h
  · split at h
    · obtain ⟨hi, hl⟩ := List.getElem?_eq_some_iff.1 h
      subst hl
      have := sizeL_at hi
      simp only [Vl.size]; omega
    · cases h
  · exact find_size h
theorem get_small : ∀ {ns : List (List UInt8)} {v y : Vl}, Ed.neat v = true → get v ns = some y → Ed.neat y = true ∧ y.size ≤ v.size
  | [], v, y, hv, h => by rw [Ed.get_nil] at h; cases h; exact ⟨hv, Nat.le_refl _⟩
  | nm :: ns, v, y, hv, h => by
    rw [Ed.get_kid] at h
    cases hk : Ed.kid v nm with
    | none => rw [hk] at h; cases h
    | some u =>
      rw [hk] at h
      obtain ⟨h1, h2⟩ := get_small (Ed.kid_neat hv hk) h
      exact ⟨h1, Nat.le_trans h2 (kid_small hk)⟩
theorem list_small {v up : Vl} {ns : List (List UInt8)} (hv : Ed.neat v = true) (h : get v ns = some up) : (Ed.listOf up).length ≤ v.size := by
  have := (get_small hv h).2
  obtain ⟨k, b, n, s, l, m⟩ := up
  have h2 := sizeL_len l
  simp only [Vl.size] at this
  show l.length ≤ _
  omega
theorem get_toldC {v u : Vl} {ns : List (List UInt8)} {x : Value} {A : Option Addr} {e : Nat} {w0 w : World} (hr : get v ns = some u) (hb : Below w0.heap.size w0 w) (hx : v.In w0.cell? x) (hs : Strs w.cell? A ns) (he : ns.length ≤ e) (hm : e ≤ maxLen) (hns : ∀ n ∈ ns, n.length ≤ 1000000) (hsz : v.size ≤ 1000000) :
    Calls Try.prog 15 #[x, .slice A ns.length e] w fun e w' => ∃ y, e = .returned (.tuple #[y, .bool true]) ∧ u.In w0.cell? y ∧ Below w.heap.size w w' := by
  refine (refGet_any ns w0.cell? v x A e w (le_below hb) hx hs he hm hns hsz).mono ?_
  rintro e' w' ⟨hb2, ⟨u', y, h1, rfl, h3⟩ | ⟨h1, y, rfl, h3⟩⟩
  · rw [hr] at h1; cases h1; exact ⟨y, rfl, h3, hb2⟩
  · rw [hr] at h1; cases h1
theorem fix_len {up : Vl} {nm : List UInt8} (h : (Ed.listOf up).length ≤ 2000) (hn : nm.length ≤ 1000000) : (Ed.fixName up nm).length ≤ 1000000 := by
  unfold Ed.fixName
  split
  · have := Ed.dec_len 6 (Ed.listOf up).length (by omega)
    omega
  · exact hn
/-- Names where a slice lies. -/
structure StrsAt (w : World) (A : Option Addr) (l : List (List UInt8)) : Prop where
  out : Strs w.cell? A l
theorem StrsAt.of {w : World} {A : Option Addr} {l : List (List UInt8)} (h : Strs w.cell? A l) : StrsAt w A l := ⟨h⟩
theorem StrsAt.on {w w' : World} {A : Option Addr} {l : List (List UInt8)} (h : StrsAt w A l) (hb : Below w.heap.size w w') : StrsAt w' A l := ⟨h.out.keep (le_below hb)⟩
theorem strs_take {c : Cl} {A : Option Addr} {a b : List (List UInt8)} (h : Strs c A (a ++ b)) : Strs c A a := fun i n hi => h i n (by rw [List.getElem?_append_left (List.getElem?_eq_some_iff.1 hi).1]; exact hi)
theorem srcx_strs {w : World} {A : Option Addr} {l : List (List UInt8)} (h : Strs w.cell? A l) (hA : A = none → l.length = 0) : SrcX w A l.length (strs l) :=
  ⟨hA, fun ad ha j u hu => by
    subst ha
    have hj : j < l.length := by have := (List.getElem?_eq_some_iff.1 hu).1; simpa [strs] using this
    obtain ⟨g, o, h1, h2⟩ := h j _ (List.getElem?_eq_getElem hj)
    injection h1 with h1
    subst h1
    have hu2 : u = .string ⟨l[j].toArray⟩ := by
      have : (strs l)[j]? = some (.string ⟨l[j].toArray⟩) := by simp [strs, hj]
      rw [this] at hu; injection hu with hu; exact hu.symm
    have e9 : (⟨g, o, none⟩ : Addr).add j = ⟨g, o + j, none⟩ := by
      unfold Addr.add
      by_cases hj0 : j = 0 <;> simp [hj0]
    rw [hu2, e9]
    exact h2⟩
theorem srcx_strs' {w : World} {A : Option Addr} {l : List (List UInt8)} {n : Nat} (hn : n = l.length) (h : Strs w.cell? A l) (hA : A = none → l.length = 0) : SrcX w A n (strs l) := by
  subst hn; exact srcx_strs h hA
theorem remove_told (hP : EditsT) {v x : Vl} {ns : List (List UInt8)} {xv xx : Value} {A : Option Addr} {e : Nat} {w : World} {r : Ed.Ch} {n : Nat} (hn : n = ns.length) (h : Handed v x ns xv xx A e w) (hr : Ed.edit 2 ns v x = r) :
    Calls Try.prog 9 #[xv, .slice A n e] w (EditV r w) := by
  subst hn
  exact (hP.remove _ _ _ _ _ _ _ _ h).mono fun e9 w9 h9 => EditE.v hr h9
theorem one_strs7 (l : List (List UInt8)) : ∀ u ∈ strs l, u.oneCell' = true := by
  intro u hu
  obtain ⟨n, _, rfl⟩ := List.mem_map.1 hu
  rfl
/-- The names that an edit's value is found by again: in a row of their own. -/
def Names (w : World) (B : Nat) (A : Option Addr) (c : Nat) (l : List (List UInt8)) : Prop := ∃ (g : Nat) (cur : Array Value), A = some ⟨g, 0, none⟩ ∧ B ≤ g ∧ Blk w g 9 cur ∧ l.length ≤ c ∧ c ≤ maxLen ∧ ∀ (j : Nat) (n : List UInt8), l[j]? = some n → cur[j]? = some (Value.string ⟨n.toArray⟩)
theorem Names.of {w : World} {B n c : Nat} {A : Option Addr} {l : List (List UInt8)} (h : w.ownsRow B 9 1 (.slice A n c) n (strs l)) (hn : n = l.length) (h0 : 0 < n) : Names w B A c l := by
  rcases h.2 with ⟨_, h1⟩ | ⟨g, cap, cur, h1, h2, h3, h4, h5, h6, h7⟩
  · omega
  · injection h1 with e1 e2 e3
    subst e1 e3
    refine ⟨g, cur, rfl, h2, h3, by omega, h5, fun j q hj => ?_⟩
    have hjl := (List.getElem?_eq_some_iff.1 hj).1
    have hq : (strs l)[j]? = some (.string ⟨q.toArray⟩) := by simp [strs, hj]
    rw [← h7, List.getElem?_take_of_lt (by omega), Array.getElem?_toList] at hq
    exact hq
theorem Names.strs {w : World} {B c : Nat} {A : Option Addr} {l : List (List UInt8)} (h : Names w B A c l) : Strs w.cell? A l ∧ l.length ≤ c ∧ c ≤ maxLen := by
  obtain ⟨g, cur, rfl, _, h3, h4, h5, h6⟩ := h
  exact ⟨fun i n hi => ⟨g, 0, rfl, by rw [Nat.zero_add, h3.cell]; exact h6 i n hi⟩, h4, h5⟩
theorem Names.on {w w' : World} {B c : Nat} {A : Option Addr} {l : List (List UInt8)} (h : Names w B A c l) (hb : Below w.heap.size w w') : Names w' B A c l := by
  obtain ⟨g, cur, h1, h2, h3, h4⟩ := h
  exact ⟨g, cur, h1, h2, h3.on hb, h4⟩
theorem Names.set {w : World} {B c : Nat} {g : Nat} {init : List (List UInt8)} {nm d : List UInt8} (h : Names w B (some ⟨g, 0, none⟩) c (init ++ [nm])) : Names (w.setCell ⟨g, init.length, none⟩ (.string ⟨d.toArray⟩)) B (some ⟨g, 0, none⟩) c (init ++ [d]) := by
  obtain ⟨g', cur, h1, h2, h3, h4, h5, h6⟩ := h
  injection h1 with h1; injection h1 with h1; subst h1
  refine ⟨g, _, rfl, h2, h3.set init.length _, by simpa using h4, h5, fun j q hj => ?_⟩
  have hcs : init.length < cur.size := by
    have := h6 init.length nm (by simp)
    exact (Array.getElem?_eq_some_iff.1 this).1
  by_cases hji : j = init.length
  · subst hji
    have : d = q := by simpa using hj
    subst this
    simp [hcs]
  · have hlt : j < init.length := by
      have := (List.getElem?_eq_some_iff.1 hj).1
      simp at this; omega
    rw [List.getElem?_append_left hlt] at hj
    rw [Array.getElem?_setIfInBounds_ne (by omega)]
    exact h6 j q (by rw [List.getElem?_append_left hlt]; exact hj)

set_option linter.unusedVariables false in
set_option linter.unusedSimpArgs false in
set_option maxRecDepth 100000 in
set_option maxHeartbeats 16000000 in
theorem editBack_any (hP : EditsT) (s : ByteArray) (pl : List UInt8) (t : ByteArray) (w : World) (hs : s.size ≤ 1000000000000000000) (hp : pl.length ≤ 1000000000000000000) (ht : t.size ≤ 1000000000000000000) :
    Calls Try.prog 4 #[.string s, .string ⟨pl.toArray⟩, .string t] w fun e w' => e = .returned (.bool true) ∧ Below w.heap.size w w' := by
  have HU := Lib.hid (up7_any hP w)
  have HPP := Lib.hid hP
  clear hP
  go_enter Try.func4, Try.ntmps4
  go_wp2_with fail
  refine HU.out.mono ?_
  rintro e0 w0 ⟨rfl, hb0⟩
  have HB0 := Lib.hid hb0
  have HV1 := Lib.hid (value_told7 s hs w0)
  clear hb0 HU
  go_wp2_with fail
  refine HV1.out.mono ?_
  rintro e1 w1 ⟨v, x1, c1, rfl, hx, hb, hc1⟩
  obtain ⟨k_1, k_2, k_3, k_4, k_5, k_6, k_7, k_8, k_9, k_a, k_b, k_c, rfl⟩ := In.cells hx
  have hb1 := HB0.out.trans (hb.mono HB0.out.size)
  have HB1 := Lib.hid (hb1.alloc hb1.size (.cells #[.int .i64 k_1, .bool k_2, .bool k_3, .string ⟨k_4.toArray⟩, .int .i64 k_5, .string ⟨k_6.toArray⟩, .slice k_7 k_8 k_9, .slice k_a k_b k_c] 28))
  have HX1 := Lib.hid (In.keep (le_alloc w1 (.cells #[.int .i64 k_1, .bool k_2, .bool k_3, .string ⟨k_4.toArray⟩, .int .i64 k_5, .string ⟨k_6.toArray⟩, .slice k_7 k_8 k_9, .slice k_a k_b k_c] 28)) _ _ hx)
  have HK1 := Lib.hid (Blk.new w1 28 #[.int .i64 k_1, .bool k_2, .bool k_3, .string ⟨k_4.toArray⟩, .int .i64 k_5, .string ⟨k_6.toArray⟩, .slice k_7 k_8 k_9, .slice k_a k_b k_c])
  have HC1 := Lib.hid hc1
  clear hx hb hb1 hc1 HV1 HB0
  go_upto_region 3 with (fail)
  generalize w1.alloc (.cells #[.int .i64 k_1, .bool k_2, .bool k_3, .string ⟨k_4.toArray⟩, .int .i64 k_5, .string ⟨k_6.toArray⟩, .slice k_7 k_8 k_9, .slice k_a k_b k_c] 28) = wa at *
  generalize w1.heap.size = gk at *
  have HLP := Lib.hid (lawPointer_any pl wa hp)
  go_wp2_with fail
  refine HLP.out.mono ?_
  rintro e2 w2 ⟨l, A, cp, c2, rfl, hs2, hl2, hm2, hA2, hb2, hc2⟩
  have HB2 := Lib.hid (HB1.out.trans (hb2.mono HB1.out.size))
  have HX2 := Lib.hid (In.keep (le_below hb2) _ _ HX1.out)
  have HK2 := Lib.hid (HK1.out.on hb2)
  have HS2 := Lib.hid hs2
  have HC2 := Lib.hid hc2
  have HA2 := Lib.hid hA2
  have HV3 := Lib.hid (value_told t ht w2)
  clear hs2 hb2 hc2 hA2 HB1 HX1 HK1 HLP
  go_wp2_with fail
  refine HV3.out.mono ?_
  rintro e3 w3 ⟨x, x3, c3, rfl, hx, hb, hc3⟩
  obtain ⟨m_1, m_2, m_3, m_4, m_5, m_6, m_7, m_8, m_9, m_a, m_b, m_c, rfl⟩ := In.cells hx
  have hba := hb.alloc hb.size (.cells #[.int .i64 m_1, .bool m_2, .bool m_3, .string ⟨m_4.toArray⟩, .int .i64 m_5, .string ⟨m_6.toArray⟩, .slice m_7 m_8 m_9, .slice m_a m_b m_c] 28)
  have HB3 := Lib.hid (HB2.out.trans (hba.mono HB2.out.size))
  have HX3 := Lib.hid (In.keep (le_below hba) _ _ HX2.out)
  have HK := Lib.hid (HK2.out.on hba)
  have HS3 := Lib.hid (HS2.out.keep (le_below hba))
  have HY3 := Lib.hid (In.keep (le_alloc w3 (.cells #[.int .i64 m_1, .bool m_2, .bool m_3, .string ⟨m_4.toArray⟩, .int .i64 m_5, .string ⟨m_6.toArray⟩, .slice m_7 m_8 m_9, .slice m_a m_b m_c] 28)) _ _ hx)
  have HM := Lib.hid (Blk.new w3 28 #[.int .i64 m_1, .bool m_2, .bool m_3, .string ⟨m_4.toArray⟩, .int .i64 m_5, .string ⟨m_6.toArray⟩, .slice m_7 m_8 m_9, .slice m_a m_b m_c])
  have HC3 := Lib.hid hc3
  clear hx hb hba hc3 HV3 HB2 HX2 HK2 HS2
  go_upto_region 5 with (fail)
  generalize w3.alloc (.cells #[.int .i64 m_1, .bool m_2, .bool m_3, .string ⟨m_4.toArray⟩, .int .i64 m_5, .string ⟨m_6.toArray⟩, .slice m_7 m_8 m_9, .slice m_a m_b m_c] 28) = wb at *
  generalize w3.heap.size = gm at *
  rcases HC1.out with rfl | ⟨rfl, hf1, hsh⟩
  · go_wp2_with fail
    go_ret
    exact ⟨rfl, HB3.out⟩
  rcases HC2.out with rfl | ⟨rfl, hpp, htx, htl⟩
  · go_wp2_with fail
    go_ret
    exact ⟨rfl, HB3.out⟩
  rcases HC3.out with rfl | ⟨rfl, hf3⟩
  · go_wp2_with fail
    go_ret
    exact ⟨rfl, HB3.out⟩
  have hnm := names_of hpp htl
  have HMAY := Lib.hid hf1.1
  have HNV := Lib.hid (Ed.neat_may v hf1.1)
  have HNX := Lib.hid (Ed.neat_may x hf3.1)
  have hsv : v.size ≤ 2000 := hf1.2.1
  have hsx : x.size ≤ 2000 := hf3.2.1
  have HNL := Lib.hid hnm
  have HH := Lib.hid (show Handed v x l _ _ A cp wb from ⟨HX3.out, HY3.out, HS3.out, hl2, hm2, HA2.out, by have := hnm.1; omega, fun q hq => by have := hnm.2 q hq; omega, Ed.neat_may v hf1.1, Ed.neat_may x hf3.1, by omega, by omega⟩)
  have HV := Lib.hid (show Bx wb gk v #[.int .i64 k_1, .bool k_2, .bool k_3, .string ⟨k_4.toArray⟩, .int .i64 k_5, .string ⟨k_6.toArray⟩, .slice k_7 k_8 k_9, .slice k_a k_b k_c] from ⟨HK.out, HX3.out⟩)
  have HX := Lib.hid (show Bx wb gm x #[.int .i64 m_1, .bool m_2, .bool m_3, .string ⟨m_4.toArray⟩, .int .i64 m_5, .string ⟨m_6.toArray⟩, .slice m_7 m_8 m_9, .slice m_a m_b m_c] from ⟨HM.out, HY3.out⟩)
  have HB := HB3
  have hll : l.length ≤ 500 := hnm.1
  obtain ⟨tx, htx⟩ : ∃ tx, v.shown = tx := ⟨_, rfl⟩
  have HTX := Lib.hid htx
  have HSH := Lib.hid (fun W (h : Bx W gk v #[.int .i64 k_1, .bool k_2, .bool k_3, .string ⟨k_4.toArray⟩, .int .i64 k_5, .string ⟨k_6.toArray⟩, .slice k_7 k_8 k_9, .slice k_a k_b k_c]) => refShowV_any v _ W h.2 hf1.1 (by omega))
  rw [htx] at HSH
  clear hnm hpp htx htl hf1 hf3 hsh HX3 HY3 HS3 HA2 HC1 HC2 HC3 HK HM HB3
  obtain ⟨r1, hr1⟩ : ∃ r1, Ed.edit 1 l v x = r1 := ⟨_, rfl⟩
  obtain ⟨r2, hr2⟩ : ∃ r2, Ed.edit 2 l v x = r2 := ⟨_, rfl⟩
  obtain ⟨r3, hr3⟩ : ∃ r3, Ed.edit 3 l v x = r3 := ⟨_, rfl⟩
  have HR1 := Lib.hid hr1
  have HR2 := Lib.hid hr2
  have HR3 := Lib.hid hr3
  clear hr1 hr2 hr3
  obtain ⟨fv, hfv⟩ : ∃ fv, get v l = fv := ⟨_, rfl⟩
  have HFV := Lib.hid hfv
  clear hfv
  obtain ⟨a0, a1, a2, a3, a4, a5, a6, a7⟩ := HV.out.1.eight
  have al := HV.out.1.lt
  go_wp2_with fail
  refine (HSH.out _ HV.out).mono ?_
  rintro e4 w4 ⟨rfl, hb4⟩
  clear a0 a1 a2 a3 a4 a5 a6 a7 al
  have HB' := Lib.hid (HB.out.trans (hb4.mono HB.out.size))
  have HV' := Lib.hid (HV.out.on hb4)
  have HX' := Lib.hid (HX.out.on hb4)
  have HH' := Lib.hid (HH.out.keep hb4)
  clear HB HV HX HH
  have HB := Lib.hid HB'.out
  have HV := Lib.hid HV'.out
  have HX := Lib.hid HX'.out
  have HH := Lib.hid HH'.out
  clear HB' HV' HX' HH'
  clear hb4
  go_upto_region 8 with (fail)
  obtain ⟨a0, a1, a2, a3, a4, a5, a6, a7⟩ := HV.out.1.eight
  have al := HV.out.1.lt
  obtain ⟨b0, b1, b2, b3, b4, b5, b6, b7⟩ := HX.out.1.eight
  have bl := HX.out.1.lt
  have HCA := Lib.hid ((HPP.out.add _ _ _ _ _ _ _ _ HH.out).mono fun e9 w9 h9 => EditE.v HR1.out h9)
  go_wp2_with fail
  refine HCA.out.mono ?_
  rintro e5 w1 ⟨y1, ev1, rfl, hev1, hy, hb⟩
  have HE1 := Lib.hid hev1
  clear hev1
  obtain ⟨n_1, n_2, n_3, n_4, n_5, n_6, n_7, n_8, n_9, n_a, n_b, n_c, rfl⟩ := In.cells hy
  have hba := hb.alloc hb.size (.cells #[.int .i64 n_1, .bool n_2, .bool n_3, .string ⟨n_4.toArray⟩, .int .i64 n_5, .string ⟨n_6.toArray⟩, .slice n_7 n_8 n_9, .slice n_a n_b n_c] 28)
  have HA := Lib.hid (show Bx (w1.alloc (.cells #[.int .i64 n_1, .bool n_2, .bool n_3, .string ⟨n_4.toArray⟩, .int .i64 n_5, .string ⟨n_6.toArray⟩, .slice n_7 n_8 n_9, .slice n_a n_b n_c] 28)) w1.heap.size (Ed.resZ r1) #[.int .i64 n_1, .bool n_2, .bool n_3, .string ⟨n_4.toArray⟩, .int .i64 n_5, .string ⟨n_6.toArray⟩, .slice n_7 n_8 n_9, .slice n_a n_b n_c] from ⟨Blk.new _ _ _, In.keep (le_alloc w1 _) _ _ hy⟩)
  clear a0 a1 a2 a3 a4 a5 a6 a7 al b0 b1 b2 b3 b4 b5 b6 b7 bl
  have HB' := Lib.hid (HB.out.trans (hba.mono HB.out.size))
  have HV' := Lib.hid (HV.out.on hba)
  have HX' := Lib.hid (HX.out.on hba)
  have HH' := Lib.hid (HH.out.keep hba)
  clear HB HV HX HH hy hb
  have HB := Lib.hid HB'.out
  have HV := Lib.hid HV'.out
  have HX := Lib.hid HX'.out
  have HH := Lib.hid HH'.out
  clear HB' HV' HX' HH'
  clear hba HCA
  go_upto_region 9 with (fail)
  generalize w1.alloc (.cells #[.int .i64 n_1, .bool n_2, .bool n_3, .string ⟨n_4.toArray⟩, .int .i64 n_5, .string ⟨n_6.toArray⟩, .slice n_7 n_8 n_9, .slice n_a n_b n_c] 28) = wb1 at *
  generalize w1.heap.size = g1 at *
  obtain ⟨a0, a1, a2, a3, a4, a5, a6, a7⟩ := HV.out.1.eight
  have al := HV.out.1.lt
  obtain ⟨b0, b1, b2, b3, b4, b5, b6, b7⟩ := HX.out.1.eight
  have bl := HX.out.1.lt
  have HCC := Lib.hid ((HPP.out.replace _ _ _ _ _ _ _ _ HH.out).mono fun e9 w9 h9 => EditE.v HR3.out h9)
  go_wp2_with fail
  refine HCC.out.mono ?_
  rintro e6 w2 ⟨y2, ev3, rfl, hev3, hy, hb⟩
  have HE3 := Lib.hid hev3
  clear hev3
  obtain ⟨p_1, p_2, p_3, p_4, p_5, p_6, p_7, p_8, p_9, p_a, p_b, p_c, rfl⟩ := In.cells hy
  have hba := hb.alloc hb.size (.cells #[.int .i64 p_1, .bool p_2, .bool p_3, .string ⟨p_4.toArray⟩, .int .i64 p_5, .string ⟨p_6.toArray⟩, .slice p_7 p_8 p_9, .slice p_a p_b p_c] 28)
  have HC := Lib.hid (show Bx (w2.alloc (.cells #[.int .i64 p_1, .bool p_2, .bool p_3, .string ⟨p_4.toArray⟩, .int .i64 p_5, .string ⟨p_6.toArray⟩, .slice p_7 p_8 p_9, .slice p_a p_b p_c] 28)) w2.heap.size (Ed.resZ r3) #[.int .i64 p_1, .bool p_2, .bool p_3, .string ⟨p_4.toArray⟩, .int .i64 p_5, .string ⟨p_6.toArray⟩, .slice p_7 p_8 p_9, .slice p_a p_b p_c] from ⟨Blk.new _ _ _, In.keep (le_alloc w2 _) _ _ hy⟩)
  clear a0 a1 a2 a3 a4 a5 a6 a7 al b0 b1 b2 b3 b4 b5 b6 b7 bl
  have HB' := Lib.hid (HB.out.trans (hba.mono HB.out.size))
  have HV' := Lib.hid (HV.out.on hba)
  have HX' := Lib.hid (HX.out.on hba)
  have HH' := Lib.hid (HH.out.keep hba)
  have HA' := Lib.hid (HA.out.on hba)
  clear HB HV HX HH HA hy hb
  have HB := Lib.hid HB'.out
  have HV := Lib.hid HV'.out
  have HX := Lib.hid HX'.out
  have HH := Lib.hid HH'.out
  have HA := Lib.hid HA'.out
  clear HB' HV' HX' HH' HA'
  clear hba HCC
  go_upto_region 10 with (fail)
  generalize w2.alloc (.cells #[.int .i64 p_1, .bool p_2, .bool p_3, .string ⟨p_4.toArray⟩, .int .i64 p_5, .string ⟨p_6.toArray⟩, .slice p_7 p_8 p_9, .slice p_a p_b p_c] 28) = wb2 at *
  generalize w2.heap.size = g2 at *
  obtain ⟨f3, hf3⟩ : ∃ f3, Ed.okOf r3 = f3 := ⟨_, rfl⟩
  have HF3 := Lib.hid hf3
  clear hf3
  go_cut [84] from 84 to 84 (fun v84 wd => v84 = .bool f3 ∧ wb2 = wd)
  case first =>
    have h3 := HF3.out
    have h4 := HE3.out
    cases r3 with
    | ok u =>
      obtain rfl : true = f3 := h3
      obtain rfl : ev3 = .nilIface := h4
      go_wp2_with fail
      go_meet
      case rel => exact ⟨rfl, rfl⟩
    | bad c =>
      obtain rfl : false = f3 := h3
      obtain rfl : ev3 = .iface 54 (.int .i64 c) := h4
      go_wp2_with fail
      go_meet
      case rel => exact ⟨rfl, rfl⟩
  case rest =>
    obtain ⟨rfl, rfl⟩ := hcut
    go_upto_if 84 with (fail)
    go_cut [19, 20, 21] from 84 to 84 (fun v19 v20 v21 wd => Below wb2.heap.size wb2 wd)
    case first =>
      cases f3 with
      | false =>
        go_wp2_with fail
        go_meet
        case rel => exact Below.refl _ _
      | true =>
        have h3 := HF3.out
        cases r3 with
        | bad c => cases h3
        | ok u3 =>
          clear h3
          have HG3 := Lib.hid (Ed.back_replace HNV.out HR3.out)
          have HZ3 := Lib.hid (Ed.size_edit l HNV.out HR3.out)
          have hsz3 : u3.size ≤ 1000000 := by have := HZ3.out; omega
          have hst := HH.out.hs
          have HBW := Lib.hid (Below.refl wb2.heap.size wb2)
          obtain ⟨a0, a1, a2, a3, a4, a5, a6, a7⟩ := HC.out.1.eight
          have al := HC.out.1.lt
          have HGT := Lib.hid (get_told rfl HG3.out HC.out.2 HH.out.hs HH.out.he HH.out.hm HH.out.hns hsz3)
          clear hst
          have HWB := Lib.hid (Below.refl wb2.heap.size wb2)
          clear HBW
          go_wp2_with fail
          refine HGT.out.mono ?_
          rintro e7 w3 ⟨y7, rfl, hy, hb⟩
          obtain ⟨q_1, q_2, q_3, q_4, q_5, q_6, q_7, q_8, q_9, q_a, q_b, q_c, rfl⟩ := In.cells hy
          have hba := hb.alloc hb.size (.cells #[.int .i64 q_1, .bool q_2, .bool q_3, .string ⟨q_4.toArray⟩, .int .i64 q_5, .string ⟨q_6.toArray⟩, .slice q_7 q_8 q_9, .slice q_a q_b q_c] 28)
          have HY := Lib.hid (show Bx (w3.alloc (.cells #[.int .i64 q_1, .bool q_2, .bool q_3, .string ⟨q_4.toArray⟩, .int .i64 q_5, .string ⟨q_6.toArray⟩, .slice q_7 q_8 q_9, .slice q_a q_b q_c] 28)) w3.heap.size x #[.int .i64 q_1, .bool q_2, .bool q_3, .string ⟨q_4.toArray⟩, .int .i64 q_5, .string ⟨q_6.toArray⟩, .slice q_7 q_8 q_9, .slice q_a q_b q_c] from ⟨Blk.new _ _ _, In.keep (le_alloc w3 _) _ _ hy⟩)
          clear a0 a1 a2 a3 a4 a5 a6 a7 al
          have HWB' := Lib.hid (HWB.out.trans (hba.mono HWB.out.size))
          have HX' := Lib.hid (HX.out.on hba)
          clear HWB HX hy hb
          have HWB := Lib.hid HWB'.out
          have HX := Lib.hid HX'.out
          clear HWB' HX'
          clear hba HGT
          go_upto_region 12 with (fail)
          generalize w3.alloc (.cells #[.int .i64 q_1, .bool q_2, .bool q_3, .string ⟨q_4.toArray⟩, .int .i64 q_5, .string ⟨q_6.toArray⟩, .slice q_7 q_8 q_9, .slice q_a q_b q_c] 28) = wb3 at *
          generalize w3.heap.size = g3 at *
          obtain ⟨a0, a1, a2, a3, a4, a5, a6, a7⟩ := HY.out.1.eight
          have al := HY.out.1.lt
          obtain ⟨b0, b1, b2, b3, b4, b5, b6, b7⟩ := HX.out.1.eight
          have bl := HX.out.1.lt
          have hsm := refSame_any _ _ _ _ wb3 HY.out.2 HX.out.2
          rw [same_refl] at hsm
          have HSM := Lib.hid hsm
          clear hsm
          go_wp2_with fail
          refine HSM.out.mono ?_
          rintro e8 w8 ⟨rfl, hb8⟩
          have HW8 := Lib.hid (HWB.out.trans (hb8.mono HWB.out.size))
          clear hb8
          go_wp2_with fail
          go_meet
          case rel => exact HW8.out
    case rest =>
      have hbc := hcut
      obtain ⟨wk, hwk⟩ : ∃ wk, wk = wc := ⟨_, rfl⟩
      subst hwk
      clear HC HE3 HF3 HR3 hcut
      have HB' := Lib.hid (HB.out.trans (hbc.mono HB.out.size))
      have HV' := Lib.hid (HV.out.on hbc)
      have HX' := Lib.hid (HX.out.on hbc)
      have HH' := Lib.hid (HH.out.keep hbc)
      have HA' := Lib.hid (HA.out.on hbc)
      clear HB HV HX HH HA
      have HB := Lib.hid HB'.out
      have HV := Lib.hid HV'.out
      have HX := Lib.hid HX'.out
      have HH := Lib.hid HH'.out
      have HA := Lib.hid HA'.out
      clear HB' HV' HX' HH' HA'
      clear hbc
      obtain ⟨f1, hf1⟩ : ∃ f1, Ed.okOf r1 = f1 := ⟨_, rfl⟩
      have HF1 := Lib.hid hf1
      clear hf1
      have hn0 : (decide ((l.length : Int) > 0)) = decide (0 < l.length) := by simp
      go_upto_region 15 with (fail)
      go_cut [106] from 106 to 106 (fun v106 wd => v106 = .bool (f1 && decide (0 < l.length)) ∧ wk = wd)
      case first =>
        have h3 := HF1.out
        have h4 := HE1.out
        cases r1 with
        | ok u =>
          obtain rfl : true = f1 := h3
          obtain rfl : ev1 = .nilIface := h4
          by_cases hl0 : 0 < l.length
          · have hl1 : (0 : Int) < (l.length : Int) := by omega
            go_wp2_with fail
            go_meet
            case rel => exact ⟨by simp [hl0], rfl⟩
          · have hl1 : ¬ (0 : Int) < (l.length : Int) := by omega
            go_wp2_with fail
            go_meet
            case rel => exact ⟨by simp [hl0], rfl⟩
        | bad c =>
          obtain rfl : false = f1 := h3
          obtain rfl : ev1 = .iface 54 (.int .i64 c) := h4
          go_wp2_with fail
          go_meet
          case rel => exact ⟨rfl, rfl⟩
      case rest =>
        obtain ⟨rfl, rfl⟩ := hcut
        clear hn0
        obtain ⟨ll, hle⟩ : ∃ ll, l.length = ll := ⟨_, rfl⟩
        rw [hle]
        go_upto_if 106 with (fail)
        go_cut [22, 23, 24, 25, 26, 27, 28, 29, 30, 31, 32] from 106 to 106 (fun v22 v23 v24 v25 v26 v27 v28 v29 v30 v31 v32 wd => Below wk.heap.size wk wd)
        case first =>
          have HQ := Lib.hid (show (f1 && decide (0 < ll)) = true → (∃ u1, r1 = .ok u1) ∧ ∃ init nm, l = init ++ [nm] from fun h => by
            rw [Bool.and_eq_true, decide_eq_true_eq, ← hle] at h
            refine ⟨?_, ?_⟩
            · have h3 := HF1.out
              rw [h.1] at h3
              cases r1 with
              | ok u => exact ⟨u, rfl⟩
              | bad c => cases h3
            · rcases List.eq_nil_or_concat l with h9 | ⟨init, nm, h9⟩
              · rw [h9] at h; exact absurd h.2 (by simp)
              · exact ⟨init, nm, by rw [h9, List.concat_eq_append]⟩)
          cases hff : f1 && decide (0 < ll) with
          | false =>
            clear hff HQ
            go_wp2_with fail
            go_meet
            case rel => exact Below.refl _ _
          | true =>
            obtain ⟨⟨u1, rfl⟩, init, nm, rfl⟩ := HQ.out hff
            clear hff HQ
            simp only [List.length_append, List.length_singleton] at hll hle
            have hlen : (init ++ [nm]).length = ll := by simp; omega
            have HSZ1 := Lib.hid (Ed.size_edit (init ++ [nm]) HNV.out HR1.out)
            have hsz1 : u1.size ≤ 1000000 := by have := HSZ1.out; omega
            have HNU1 := Lib.hid (Ed.neat_edit HNV.out (.inr HNX.out) HR1.out)
            obtain ⟨up, hup, hgx, hrem⟩ := Ed.back_add HNV.out (fun up h => by have := list_small HNV.out h; omega) HR1.out
            have HUP := Lib.hid hup
            have HGX := Lib.hid hgx
            have HREM := Lib.hid hrem
            have HLS := Lib.hid (list_small HNV.out hup)
            clear hup hgx hrem
            obtain ⟨g0, o0, rfl, -⟩ := HH.out.hs init.length nm (by simp)
            have HST := Lib.hid (StrsAt.of HH.out.hs)
            have HNM := Lib.hid (fun q hq => HH.out.hns q hq)
            have hcpe := HH.out.he
            have hcpm := HH.out.hm
            have HCPM := Lib.hid hcpm
            have hnml : nm.length ≤ 1000000 := HNM.out nm (by simp)
            unfold maxLen at hcpm
            rw [hlen] at hcpe
            have HSZV := Lib.hid HH.out.hsz
            have HWB := Lib.hid (Below.refl wk.heap.size wk)
            clear HH
            obtain ⟨a0, a1, a2, a3, a4, a5, a6, a7⟩ := HV.out.1.eight
            have al := HV.out.1.lt
            have hi1 : ((ll : Int) - 1) = (init.length : Int) := by omega
            have hile : init.length ≤ cp := by omega
            have hw1 : True → IntKind.i64.wrap (init.length : Int) = (init.length : Int) := fun _ => by rw [IntKind.wrap_i64]; omega
            have HG1 := Lib.hid (fun W (h : Below wk.heap.size wk W) => get_toldC HUP.out h HV.out.2 ((strs_take HST.out.out).keep (le_below h)) (show init.length ≤ cp by omega) HCPM.out (fun q hq => HNM.out q (List.mem_append_left _ hq)) HSZV.out)
            go_upto_region 16 with (fail)
            go_cut [22, 23] from 106 to 106 (fun v22 v23 wd => ∃ (p22 : Nat) (cs : Array Value), v22 = .pointer (some ⟨p22, 0, none⟩) ∧ v23 = .bool true ∧ Blk wd p22 28 cs ∧ up.In wk.cell? (.agg cs) ∧ Below wk.heap.size wk wd)
            case first =>
              go_region_law (first | (go_simp; go_at_call 15; refine (HG1.out _ (by first | exact (Below.refl _ _).drew | exact ((Below.refl _ _).alloc (Nat.le_refl _) _).drew)).mono ?_; rintro e9 w9 ⟨y9, rfl, hy, hb9⟩; obtain ⟨j1, j2, j3, j4, j5, j6, j7, j8, j9, ja, jb, jc, rfl⟩ := In.cells hy; have HY := Lib.hid hy; first | (have h8 : Blk w9 wk.heap.size 28 zeroC := (show Blk (World.drew (wk.alloc (.cells zeroC 28))) _ _ _ from Blk.new wk _ _).on hb9; have h8c := h8.eight; have h8f := h8.frozen; have h8l := h8.lt; have H8 := Lib.hid h8; have HB9 := Lib.hid ((((Below.refl wk.heap.size wk).alloc (Nat.le_refl _) (.cells zeroC 28)).drew).trans (hb9.mono (by simp))); clear h8) | (have HB9 := Lib.hid (((Below.refl wk.heap.size wk).drew).trans (show Below wk.heap.size wk.drew w9 from hb9))); have hsz9 := HB9.out.size; clear hy hb9))
              all_goals
                clear hw1
                go_wp2_with fail
                go_meet
                case rel => first
                  | exact ⟨wk.heap.size, _, rfl, rfl, H8.out.set8 _ _ _ _ _ _ _ _, HY.out, below_set8 HB9.out (Nat.le_refl _) _ _ _ _ _ _ _ _⟩
                  | exact ⟨w9.heap.size, _, rfl, rfl, Blk.new _ _ _, HY.out, HB9.out.alloc hsz9 _⟩
            case rest =>
              obtain ⟨p22, cs, rfl, rfl, hbu, hiu, hbc⟩ := hcut
              obtain ⟨wu, hwu⟩ : ∃ wu, wu = wc := ⟨_, rfl⟩
              subst hwu
              have hxu := In.keep (le_below hbc) _ _ hiu
              obtain ⟨ku, bu, nu, su, lu, mu⟩ := up
              obtain ⟨Au, eu, Bu, du, hcs, -⟩ := In.form hxu
              injection hcs with hcs
              subst hcs
              have HU := Lib.hid (show Bx wu p22 _ _ from ⟨hbu, hxu⟩)
              have HLS2 := Lib.hid (show lu.length ≤ 2000 from Nat.le_trans HLS.out hsv)
              clear hbu hiu hxu HG1 a0 a1 a2 a3 a4 a5 a6 a7 al
              have HWB' := Lib.hid (HWB.out.trans (hbc.mono HWB.out.size))
              have HV' := Lib.hid (HV.out.on hbc)
              have HX' := Lib.hid (HX.out.on hbc)
              have HA' := Lib.hid (HA.out.on hbc)
              have HST' := Lib.hid (HST.out.on hbc)
              clear HWB HV HX HA HST
              have HWB := Lib.hid HWB'.out
              have HV := Lib.hid HV'.out
              have HX := Lib.hid HX'.out
              have HA := Lib.hid HA'.out
              have HST := Lib.hid HST'.out
              clear HWB' HV' HX' HA' HST'
              clear hbc
              obtain ⟨a0, a1, a2, a3, a4, a5, a6, a7⟩ := HV.out.1.eight
              have al := HV.out.1.lt
              have HGV := Lib.hid (get_told hlen.symm HFV.out HV.out.2 HST.out.out hcpe HCPM.out HNM.out HSZV.out)
              go_wp2_with fail
              refine HGV.out.mono ?_
              rintro e7 w21 ⟨y7, rfl, hy, hb⟩
              obtain ⟨q_1, q_2, q_3, q_4, q_5, q_6, q_7, q_8, q_9, q_a, q_b, q_c, rfl⟩ := In.cells hy
              have hba := hb.alloc hb.size (.cells #[.int .i64 q_1, .bool q_2, .bool q_3, .string ⟨q_4.toArray⟩, .int .i64 q_5, .string ⟨q_6.toArray⟩, .slice q_7 q_8 q_9, .slice q_a q_b q_c] 28)
              have HQ2 := Lib.hid (show Bx (w21.alloc (.cells #[.int .i64 q_1, .bool q_2, .bool q_3, .string ⟨q_4.toArray⟩, .int .i64 q_5, .string ⟨q_6.toArray⟩, .slice q_7 q_8 q_9, .slice q_a q_b q_c] 28)) w21.heap.size (fv.getD Ps.mkN) #[.int .i64 q_1, .bool q_2, .bool q_3, .string ⟨q_4.toArray⟩, .int .i64 q_5, .string ⟨q_6.toArray⟩, .slice q_7 q_8 q_9, .slice q_a q_b q_c] from ⟨Blk.new _ _ _, In.keep (le_alloc w21 _) _ _ hy⟩)
              clear a0 a1 a2 a3 a4 a5 a6 a7 al
              have HWB' := Lib.hid (HWB.out.trans (hba.mono HWB.out.size))
              have HV' := Lib.hid (HV.out.on hba)
              have HX' := Lib.hid (HX.out.on hba)
              have HA' := Lib.hid (HA.out.on hba)
              have HST' := Lib.hid (HST.out.on hba)
              have HU' := Lib.hid (HU.out.on hba)
              clear HWB HV HX HA HST HU hy hb
              have HWB := Lib.hid HWB'.out
              have HV := Lib.hid HV'.out
              have HX := Lib.hid HX'.out
              have HA := Lib.hid HA'.out
              have HST := Lib.hid HST'.out
              have HU := Lib.hid HU'.out
              clear HWB' HV' HX' HA' HST' HU'
              clear hba HGV
              go_upto_region 18 with (fail)
              generalize w21.alloc (.cells #[.int .i64 q_1, .bool q_2, .bool q_3, .string ⟨q_4.toArray⟩, .int .i64 q_5, .string ⟨q_6.toArray⟩, .slice q_7 q_8 q_9, .slice q_a q_b q_c] 28) = wb21 at *
              generalize w21.heap.size = g21 at *
              have hclx : wb21.cell? ⟨g0, o0 + init.length, none⟩ = some (.string ⟨nm.toArray⟩) := by
                obtain ⟨g9, o9, h1, h2⟩ := HST.out.out init.length nm (by simp)
                injection h1 with h1; injection h1 with h1 h3 _; subst h1 h3
                exact h2
              have HCL2 := Lib.hid hclx
              clear hclx HQ2
              obtain ⟨i0, hi0, hz0, hz1, hz2⟩ := info_parts infoString
              have HSRC := Lib.hid (show SrcX (wb21.alloc (.cells #[] 9)) (some ⟨g0, o0, none⟩) ll (strs (init ++ [nm])) from srcx_strs' hlen.symm (HST.out.out.keep (le_alloc wb21 (.cells #[] 9))) (fun h => by cases h))
              have HOWNE := Lib.hid (show (wb21.alloc (.cells #[] 9)).ownsRow wb21.heap.size 9 1 (.slice (some ⟨wb21.heap.size, 0, none⟩) 0 0) 0 [] from World.ownsRow_lit wb21 #[] 0 (Nat.le_refl _) (by unfold maxLen; omega) rfl)
              go_cut [26] from 106 to 106 (fun v26 wd => ∃ (g26 c26 : Nat), v26 = .slice (some ⟨g26, 0, none⟩) ll c26 ∧ Names wd wb21.heap.size (some ⟨g26, 0, none⟩) c26 (init ++ [nm]) ∧ Below wb21.heap.size wb21 wd)
              case first =>
                go_wp2_with (at_builtin; refine wpList_append_srcx _ rfl _ _ _ rfl wb21.heap.size 9 i0 _ 1 16 Try.underlying31 hi0 hz0 hz1 hz2 rfl (by omega) (.slice (some ⟨wb21.heap.size, 0, none⟩) 0 0) 0 [] rfl HOWNE.out (some ⟨g0, o0, none⟩) ll cp (strs (init ++ [nm])) rfl (by rw [strs_length, hlen]; omega) HSRC.out (one_strs7 _) (by unfold maxLen; omega) (by omega) (by simp) ll (by omega) ?_; intro A9 c9 wx hown9 hg9; have HOWN9 := Lib.hid hown9; have HB9 := Lib.hid (((Below.refl wb21.heap.size wb21).alloc (Nat.le_refl _) (.cells #[] 9)).grown hg9 (by simp) (fun k hk => by cases hk; exact Nat.le_refl _)); clear hown9 hg9)
                go_meet
                case rel =>
                  obtain ⟨g9, cur9, rfl, h2, h3, h4⟩ := Names.of HOWN9.out hlen.symm (by omega)
                  exact ⟨g9, c9, rfl, ⟨g9, cur9, rfl, h2, h3, h4⟩, HB9.out⟩
              case rest =>
                obtain ⟨g26, c26, rfl, hnm6, hbn⟩ := hcut
                have HNA := Lib.hid hnm6
                have HBN := Lib.hid hbn
                obtain ⟨wn, hwn⟩ : ∃ wn, wn = wc := ⟨_, rfl⟩
                subst hwn
                have hc3 := le_below hbn _ _ HCL2.out
                have hcl3 := World.block_lt_of_cell? _ _ hc3
                have hun := HU.out.1.on hbn
                obtain ⟨e0, e1, e2, e3, e4, e5, e6, e7⟩ := hun.eight
                have el := hun.lt
                clear hnm6 hbn hun HSRC HOWNE HCL2 hi0 hz0 hz1 hz2 HST
                go_upto_region 19 with (fail)
                go_cut [137] from 137 to 137 (fun v137 wd => v137 = .bool (decide (ku = 4) && decide (nm = [45])) ∧ wn = wd)
                case first =>
                  by_cases hk4 : ku = 4
                  · subst hk4
                    by_cases hnd : nm = [45]
                    · subst hnd
                      go_wp2_with fail
                      go_meet
                      case rel => exact ⟨rfl, rfl⟩
                    · have hq : (nm == [45]) = false := by rw [beq_eq_false_iff_ne]; exact hnd
                      have hq2 : decide (nm = [45]) = false := decide_eq_false hnd
                      have HQ9 := Lib.hid hq2
                      clear hnd hq2
                      go_wp2_with fail
                      go_meet
                      case rel => exact ⟨by rw [HQ9.out, Bool.and_false], rfl⟩
                  · have hk5 : (ku == 4) = false := by rw [beq_eq_false_iff_ne]; exact hk4
                    have hq2 : decide (ku = 4) = false := decide_eq_false hk4
                    have HQ9 := Lib.hid hq2
                    clear hk4 hq2
                    go_wp2_with fail
                    go_meet
                    case rel => exact ⟨by rw [HQ9.out, Bool.false_and], rfl⟩
                case rest =>
                  obtain ⟨rfl, rfl⟩ := hcut
                  have HFN := Lib.hid (show Ed.fixName (.mk ku bu nu su lu mu) nm = (if (decide (ku = 4) && decide (nm = [45])) = true then Lib.decDigits lu.length else nm) by
                    unfold Ed.fixName
                    by_cases h4 : ku = 4 <;> by_cases h5 : nm = [45] <;> simp [h4, h5, Ed.kindOf, Ed.listOf])
                  go_upto_if 137 with (fail)
                  go_cut [27] from 137 to 137 (fun v27 wd => Names wd wb21.heap.size (some ⟨g26, 0, none⟩) c26 (init ++ [Ed.fixName (.mk ku bu nu su lu mu) nm]) ∧ Below wb21.heap.size wb21 wd)
                  case first =>
                    cases hcd : (decide (ku = 4) && decide (nm = [45])) with
                    | false =>
                      have hfn : Ed.fixName (.mk ku bu nu su lu mu) nm = nm := by rw [HFN.out, hcd]; rfl
                      have HF9 := Lib.hid hfn
                      clear hfn hcd
                      go_wp2_with fail
                      go_meet
                      case rel => exact ⟨by rw [HF9.out]; exact HNA.out, HBN.out⟩
                    | true =>
                      have hfn : Ed.fixName (.mk ku bu nu su lu mu) nm = Lib.decDigits lu.length := by rw [HFN.out, hcd]; rfl
                      have HF9 := Lib.hid hfn
                      clear hfn hcd
                      have HSP := Lib.hid (showPlain_any lu.length wn (by have := HLS2.out; omega))
                      go_wp2_with fail
                      refine HSP.out.mono ?_
                      rintro e8 w8 ⟨rfl, hb8⟩
                      have HN8 := Lib.hid (HNA.out.on hb8)
                      have HB8 := Lib.hid (HBN.out.trans (hb8.mono HBN.out.size))
                      obtain ⟨g9, cur9, h1, h2, h3, h4, h5, h6⟩ := HN8.out
                      injection h1 with h1; injection h1 with h1; subst h1
                      have h7 := h6 init.length nm (by simp)
                      have h8 := h3.cell init.length
                      rw [h7] at h8
                      have h9 := h3.frozen init.length
                      have h10 := h3.lt
                      have HG9 := Lib.hid h2
                      clear hb8 h2 h3 h4 h5 h6 h7 HSP
                      go_wp2_with fail
                      go_meet
                      case rel => exact ⟨by rw [HF9.out]; exact HN8.out.set, HB8.out.setCell (p := ⟨g26, init.length, none⟩) HG9.out _⟩
                  case rest =>
                    obtain ⟨hnm7, hbc⟩ := hcut
                    obtain ⟨wp, hwp⟩ : ∃ wp, wp = wc := ⟨_, rfl⟩
                    subst hwp
                    have HNA := Lib.hid hnm7
                    have HFL := Lib.hid (fix_len (up := .mk ku bu nu su lu mu) (nm := nm) (show (Ed.listOf (.mk ku bu nu su lu mu)).length ≤ 2000 from HLS2.out) hnml)
                    clear hnm7 HBN HFN hc3 hcl3 e0 e1 e2 e3 e4 e5 e6 e7 el
                    have HWB' := Lib.hid (HWB.out.trans (hbc.mono HWB.out.size))
                    have HV' := Lib.hid (HV.out.on hbc)
                    have HX' := Lib.hid (HX.out.on hbc)
                    have HA' := Lib.hid (HA.out.on hbc)
                    have HU' := Lib.hid (HU.out.on hbc)
                    clear HWB HV HX HA HU
                    have HWB := Lib.hid HWB'.out
                    have HV := Lib.hid HV'.out
                    have HX := Lib.hid HX'.out
                    have HA := Lib.hid HA'.out
                    have HU := Lib.hid HU'.out
                    clear HWB' HV' HX' HA' HU'
                    clear hbc
                    have HKU := Lib.hid (show Ed.kindOf (.mk ku bu nu su lu mu) = ku from rfl)
                    have hlen2 : (init ++ [Ed.fixName (.mk ku bu nu su lu mu) nm]).length = ll := by simp; omega
                    have HAT := Lib.hid (HNA.out.strs)
                    have HNF := Lib.hid (show ∀ q ∈ init ++ [Ed.fixName (.mk ku bu nu su lu mu) nm], q.length ≤ 1000000 from fun q hq => by
                      rcases List.mem_append.1 hq with h | h
                      · exact HNM.out q (List.mem_append_left _ h)
                      · rw [List.mem_singleton.1 h]; exact HFL.out)
                    have hat1 : ll ≤ c26 := by have := HAT.out.2.1; rw [hlen2] at this; exact this
                    have HGT := Lib.hid (get_told hlen2.symm HGX.out HA.out.2 HAT.out.1 hat1 HAT.out.2.2 HNF.out hsz1)
                    obtain ⟨a0, a1, a2, a3, a4, a5, a6, a7⟩ := HA.out.1.eight
                    have al := HA.out.1.lt
                    clear HAT
                    go_wp2_with fail
                    refine HGT.out.mono ?_
                    rintro e9 w22 ⟨y9, rfl, hy, hb⟩
                    obtain ⟨r_1, r_2, r_3, r_4, r_5, r_6, r_7, r_8, r_9, r_a, r_b, r_c, rfl⟩ := In.cells hy
                    have hba := hb.alloc hb.size (.cells #[.int .i64 r_1, .bool r_2, .bool r_3, .string ⟨r_4.toArray⟩, .int .i64 r_5, .string ⟨r_6.toArray⟩, .slice r_7 r_8 r_9, .slice r_a r_b r_c] 28)
                    have HY := Lib.hid (show Bx (w22.alloc (.cells #[.int .i64 r_1, .bool r_2, .bool r_3, .string ⟨r_4.toArray⟩, .int .i64 r_5, .string ⟨r_6.toArray⟩, .slice r_7 r_8 r_9, .slice r_a r_b r_c] 28)) w22.heap.size x #[.int .i64 r_1, .bool r_2, .bool r_3, .string ⟨r_4.toArray⟩, .int .i64 r_5, .string ⟨r_6.toArray⟩, .slice r_7 r_8 r_9, .slice r_a r_b r_c] from ⟨Blk.new _ _ _, In.keep (le_alloc w22 _) _ _ hy⟩)
                    clear a0 a1 a2 a3 a4 a5 a6 a7 al
                    have HWB' := Lib.hid (HWB.out.trans (hba.mono HWB.out.size))
                    have HV' := Lib.hid (HV.out.on hba)
                    have HX' := Lib.hid (HX.out.on hba)
                    have HA' := Lib.hid (HA.out.on hba)
                    have HU' := Lib.hid (HU.out.on hba)
                    have HNA' := Lib.hid (HNA.out.on hba)
                    clear HWB HV HX HA HU HNA hy hb
                    have HWB := Lib.hid HWB'.out
                    have HV := Lib.hid HV'.out
                    have HX := Lib.hid HX'.out
                    have HA := Lib.hid HA'.out
                    have HU := Lib.hid HU'.out
                    have HNA := Lib.hid HNA'.out
                    clear HWB' HV' HX' HA' HU' HNA'
                    clear hba HGT
                    go_upto_region 22 with (fail)
                    generalize w22.alloc (.cells #[.int .i64 r_1, .bool r_2, .bool r_3, .string ⟨r_4.toArray⟩, .int .i64 r_5, .string ⟨r_6.toArray⟩, .slice r_7 r_8 r_9, .slice r_a r_b r_c] 28) = wb22 at *
                    generalize w22.heap.size = g22 at *
                    obtain ⟨a0, a1, a2, a3, a4, a5, a6, a7⟩ := HY.out.1.eight
                    have al := HY.out.1.lt
                    obtain ⟨b0, b1, b2, b3, b4, b5, b6, b7⟩ := HX.out.1.eight
                    have bl := HX.out.1.lt
                    have hsm := refSame_any _ _ _ _ wb22 HY.out.2 HX.out.2
                    rw [same_refl] at hsm
                    have HSM := Lib.hid hsm
                    clear hsm
                    go_wp2_with fail
                    refine HSM.out.mono ?_
                    rintro e10 w10 ⟨rfl, hb10⟩
                    clear a0 a1 a2 a3 a4 a5 a6 a7 al b0 b1 b2 b3 b4 b5 b6 b7 bl
                    have HWB' := Lib.hid (HWB.out.trans (hb10.mono HWB.out.size))
                    have HV' := Lib.hid (HV.out.on hb10)
                    have HX' := Lib.hid (HX.out.on hb10)
                    have HA' := Lib.hid (HA.out.on hb10)
                    have HU' := Lib.hid (HU.out.on hb10)
                    have HNA' := Lib.hid (HNA.out.on hb10)
                    clear HWB HV HX HA HU HNA
                    have HWB := Lib.hid HWB'.out
                    have HV := Lib.hid HV'.out
                    have HX := Lib.hid HX'.out
                    have HA := Lib.hid HA'.out
                    have HU := Lib.hid HU'.out
                    have HNA := Lib.hid HNA'.out
                    clear HWB' HV' HX' HA' HU' HNA'
                    clear hb10
                    go_upto_region 25 with (fail)
                    obtain ⟨e0, e1, e2, e3, e4, e5, e6, e7⟩ := HU.out.1.eight
                    have el := HU.out.1.lt
                    by_cases hcond : ku = 4 ∨ fv = none
                    · have HRM := Lib.hid (HREM.out (hcond.imp (fun h => h) (fun h => HFV.out.trans h)) x)
                      have HAT := Lib.hid (HNA.out.strs)
                      have HHA := Lib.hid (show Handed u1 x (init ++ [Ed.fixName (.mk ku bu nu su lu mu) nm]) _ _ (some ⟨g26, 0, none⟩) c26 w10 from ⟨HA.out.2, HX.out.2, HAT.out.1, HAT.out.2.1, HAT.out.2.2, (fun h => by cases h), by rw [hlen2]; omega, HNF.out, HNU1.out, HNX.out, hsz1, by omega⟩)
                      have HCR := Lib.hid (remove_told HPP.out hlen2.symm HHA.out HRM.out)
                      clear HAT HHA
                      have hcd : ((ku == 4) = true) ∨ ((ku == 4) = false ∧ fv = none) := by
                        by_cases h4 : ku = 4
                        · exact .inl (by rw [h4]; rfl)
                        · exact .inr ⟨by rw [beq_eq_false_iff_ne]; exact h4, hcond.resolve_left h4⟩
                      clear hcond
                      go_cut [168] from 168 to 168 (fun v168 wd => v168 = .bool true ∧ w10 = wd)
                      case first =>
                        rcases hcd with h4 | ⟨h4, rfl⟩
                        · go_wp2_with fail
                          go_meet
                          case rel => exact ⟨rfl, rfl⟩
                        · go_wp2_with fail
                          go_meet
                          case rel => exact ⟨rfl, rfl⟩
                      case rest =>
                        obtain ⟨rfl, rfl⟩ := hcut
                        clear hcd
                        clear e0 e1 e2 e3 e4 e5 e6 e7 el
                        obtain ⟨a0, a1, a2, a3, a4, a5, a6, a7⟩ := HA.out.1.eight
                        have al := HA.out.1.lt
                        go_wp2_with fail
                        refine HCR.out.mono ?_
                        rintro e11 w23 ⟨y11, ev11, rfl, hev11, hy, hb⟩
                        obtain rfl : ev11 = .nilIface := hev11
                        obtain ⟨o_1, o_2, o_3, o_4, o_5, o_6, o_7, o_8, o_9, o_a, o_b, o_c, rfl⟩ := In.cells hy
                        have hba := hb.alloc hb.size (.cells #[.int .i64 o_1, .bool o_2, .bool o_3, .string ⟨o_4.toArray⟩, .int .i64 o_5, .string ⟨o_6.toArray⟩, .slice o_7 o_8 o_9, .slice o_a o_b o_c] 28)
                        have HO := Lib.hid (show Bx (w23.alloc (.cells #[.int .i64 o_1, .bool o_2, .bool o_3, .string ⟨o_4.toArray⟩, .int .i64 o_5, .string ⟨o_6.toArray⟩, .slice o_7 o_8 o_9, .slice o_a o_b o_c] 28)) w23.heap.size v #[.int .i64 o_1, .bool o_2, .bool o_3, .string ⟨o_4.toArray⟩, .int .i64 o_5, .string ⟨o_6.toArray⟩, .slice o_7 o_8 o_9, .slice o_a o_b o_c] from ⟨Blk.new _ _ _, In.keep (le_alloc w23 _) _ _ hy⟩)
                        clear a0 a1 a2 a3 a4 a5 a6 a7 al
                        have HWB' := Lib.hid (HWB.out.trans (hba.mono HWB.out.size))
                        have HV' := Lib.hid (HV.out.on hba)
                        clear HWB HV hy hb
                        have HWB := Lib.hid HWB'.out
                        have HV := Lib.hid HV'.out
                        clear HWB' HV'
                        clear hba HCR
                        go_upto_region 27 with (fail)
                        generalize w23.alloc (.cells #[.int .i64 o_1, .bool o_2, .bool o_3, .string ⟨o_4.toArray⟩, .int .i64 o_5, .string ⟨o_6.toArray⟩, .slice o_7 o_8 o_9, .slice o_a o_b o_c] 28) = wb23 at *
                        generalize w23.heap.size = g23 at *
                        obtain ⟨a0, a1, a2, a3, a4, a5, a6, a7⟩ := HO.out.1.eight
                        have al := HO.out.1.lt
                        obtain ⟨b0, b1, b2, b3, b4, b5, b6, b7⟩ := HV.out.1.eight
                        have bl := HV.out.1.lt
                        have hsm := refSame_any _ _ _ _ wb23 HO.out.2 HV.out.2
                        rw [same_refl] at hsm
                        have HSM := Lib.hid hsm
                        clear hsm
                        go_wp2_with fail
                        refine HSM.out.mono ?_
                        rintro e12 w12 ⟨rfl, hb12⟩
                        have HW12 := Lib.hid (HWB.out.trans (hb12.mono HWB.out.size))
                        clear hb12
                        go_wp2_with fail
                        go_meet
                        case rel => exact HW12.out
                    · have h4 : (ku == 4) = false := by rw [beq_eq_false_iff_ne]; exact fun h => hcond (.inl h)
                      obtain ⟨y0, hy0⟩ : ∃ y0, fv = some y0 := by
                        cases hfv : fv with
                        | none => exact absurd (.inr hfv) hcond
                        | some y0 => exact ⟨y0, rfl⟩
                      subst hy0
                      clear hcond
                      go_wp2_with fail
                      go_meet
                      case rel => exact HWB.out
        case rest =>
          have hbc := hcut
          subst hle
          obtain ⟨wj, hwj⟩ : ∃ wj, wj = wc := ⟨_, rfl⟩
          subst hwj
          clear HA HE1 HF1 HR1 hcut
          have HB' := Lib.hid (HB.out.trans (hbc.mono HB.out.size))
          have HV' := Lib.hid (HV.out.on hbc)
          have HX' := Lib.hid (HX.out.on hbc)
          have HH' := Lib.hid (HH.out.keep hbc)
          clear HB HV HX HH
          have HB := Lib.hid HB'.out
          have HV := Lib.hid HV'.out
          have HX := Lib.hid HX'.out
          have HH := Lib.hid HH'.out
          clear HB' HV' HX' HH'
          clear hbc
          go_upto_region 30 with (fail)
          obtain ⟨a0, a1, a2, a3, a4, a5, a6, a7⟩ := HV.out.1.eight
          have al := HV.out.1.lt
          have HGT := Lib.hid (get_told rfl HFV.out HV.out.2 HH.out.hs HH.out.he HH.out.hm HH.out.hns HH.out.hsz)
          go_wp2_with fail
          refine HGT.out.mono ?_
          rintro e7 w4 ⟨y7, rfl, hy, hb⟩
          obtain ⟨q_1, q_2, q_3, q_4, q_5, q_6, q_7, q_8, q_9, q_a, q_b, q_c, rfl⟩ := In.cells hy
          have hba := hb.alloc hb.size (.cells #[.int .i64 q_1, .bool q_2, .bool q_3, .string ⟨q_4.toArray⟩, .int .i64 q_5, .string ⟨q_6.toArray⟩, .slice q_7 q_8 q_9, .slice q_a q_b q_c] 28)
          have HY := Lib.hid (show Bx (w4.alloc (.cells #[.int .i64 q_1, .bool q_2, .bool q_3, .string ⟨q_4.toArray⟩, .int .i64 q_5, .string ⟨q_6.toArray⟩, .slice q_7 q_8 q_9, .slice q_a q_b q_c] 28)) w4.heap.size (fv.getD Ps.mkN) #[.int .i64 q_1, .bool q_2, .bool q_3, .string ⟨q_4.toArray⟩, .int .i64 q_5, .string ⟨q_6.toArray⟩, .slice q_7 q_8 q_9, .slice q_a q_b q_c] from ⟨Blk.new _ _ _, In.keep (le_alloc w4 _) _ _ hy⟩)
          clear a0 a1 a2 a3 a4 a5 a6 a7 al
          have HB' := Lib.hid (HB.out.trans (hba.mono HB.out.size))
          have HV' := Lib.hid (HV.out.on hba)
          have HX' := Lib.hid (HX.out.on hba)
          have HH' := Lib.hid (HH.out.keep hba)
          clear HB HV HX HH hy hb
          have HB := Lib.hid HB'.out
          have HV := Lib.hid HV'.out
          have HX := Lib.hid HX'.out
          have HH := Lib.hid HH'.out
          clear HB' HV' HX' HH'
          clear hba HGT
          go_upto_region 31 with (fail)
          generalize w4.alloc (.cells #[.int .i64 q_1, .bool q_2, .bool q_3, .string ⟨q_4.toArray⟩, .int .i64 q_5, .string ⟨q_6.toArray⟩, .slice q_7 q_8 q_9, .slice q_a q_b q_c] 28) = wb4 at *
          generalize w4.heap.size = g4 at *
          obtain ⟨a0, a1, a2, a3, a4, a5, a6, a7⟩ := HV.out.1.eight
          have al := HV.out.1.lt
          have HCR := Lib.hid ((HPP.out.remove _ _ _ _ _ _ _ _ HH.out).mono fun e9 w9 h9 => EditE.v HR2.out h9)
          go_wp2_with fail
          refine HCR.out.mono ?_
          rintro e8 w5 ⟨y8, ev2, rfl, hev2, hy, hb⟩
          have HE2 := Lib.hid hev2
          clear hev2
          obtain ⟨z_1, z_2, z_3, z_4, z_5, z_6, z_7, z_8, z_9, z_a, z_b, z_c, rfl⟩ := In.cells hy
          have hba := hb.alloc hb.size (.cells #[.int .i64 z_1, .bool z_2, .bool z_3, .string ⟨z_4.toArray⟩, .int .i64 z_5, .string ⟨z_6.toArray⟩, .slice z_7 z_8 z_9, .slice z_a z_b z_c] 28)
          have HD := Lib.hid (show Bx (w5.alloc (.cells #[.int .i64 z_1, .bool z_2, .bool z_3, .string ⟨z_4.toArray⟩, .int .i64 z_5, .string ⟨z_6.toArray⟩, .slice z_7 z_8 z_9, .slice z_a z_b z_c] 28)) w5.heap.size (Ed.resZ r2) #[.int .i64 z_1, .bool z_2, .bool z_3, .string ⟨z_4.toArray⟩, .int .i64 z_5, .string ⟨z_6.toArray⟩, .slice z_7 z_8 z_9, .slice z_a z_b z_c] from ⟨Blk.new _ _ _, In.keep (le_alloc w5 _) _ _ hy⟩)
          clear a0 a1 a2 a3 a4 a5 a6 a7 al
          have HB' := Lib.hid (HB.out.trans (hba.mono HB.out.size))
          have HV' := Lib.hid (HV.out.on hba)
          have HX' := Lib.hid (HX.out.on hba)
          have HH' := Lib.hid (HH.out.keep hba)
          have HY' := Lib.hid (HY.out.on hba)
          clear HB HV HX HH HY hy hb
          have HB := Lib.hid HB'.out
          have HV := Lib.hid HV'.out
          have HX := Lib.hid HX'.out
          have HH := Lib.hid HH'.out
          have HY := Lib.hid HY'.out
          clear HB' HV' HX' HH' HY'
          clear hba HCR
          go_upto_region 32 with (fail)
          generalize w5.alloc (.cells #[.int .i64 z_1, .bool z_2, .bool z_3, .string ⟨z_4.toArray⟩, .int .i64 z_5, .string ⟨z_6.toArray⟩, .slice z_7 z_8 z_9, .slice z_a z_b z_c] 28) = wb5 at *
          generalize w5.heap.size = g5 at *
          have HSHE := Lib.hid (HSH.out)
          cases hr2 : r2 with
          | bad c =>
            have h4 := HE2.out
            rw [hr2] at h4
            obtain rfl : ev2 = .iface 54 (.int .i64 c) := h4
            have hno : fv = none ∨ l = [] := by
              cases hfv : fv with
              | none => exact .inl rfl
              | some y =>
                refine .inr (Classical.byContradiction fun hl => ?_)
                obtain ⟨u, hu⟩ := Ed.back_there x hl (by rw [HFV.out, hfv])
                rw [HR2.out, hr2] at hu; cases hu
            obtain ⟨a0, a1, a2, a3, a4, a5, a6, a7⟩ := HV.out.1.eight
            have al := HV.out.1.lt
            have HS9 := Lib.hid (HSH.out _ HV.out)
            clear hr2
            rcases hno with rfl | rfl
            · go_wp2_with fail
              refine HS9.out.mono ?_
              rintro e9 w9 ⟨rfl, hb9⟩
              have HB9 := Lib.hid (HB.out.trans (hb9.mono HB.out.size))
              clear hb9
              go_wp2_with fail
              go_ret
              exact ⟨rfl, HB9.out⟩
            · cases fv with
              | none =>
                go_wp2_with fail
                refine HS9.out.mono ?_
                rintro e9 w9 ⟨rfl, hb9⟩
                have HB9 := Lib.hid (HB.out.trans (hb9.mono HB.out.size))
                clear hb9
                go_wp2_with fail
                go_ret
                exact ⟨rfl, HB9.out⟩
              | some y0 =>
                go_wp2_with fail
                refine HS9.out.mono ?_
                rintro e9 w9 ⟨rfl, hb9⟩
                have HB9 := Lib.hid (HB.out.trans (hb9.mono HB.out.size))
                clear hb9
                go_wp2_with fail
                go_ret
                exact ⟨rfl, HB9.out⟩
          | ok u2 =>
            have h4 := HE2.out
            rw [hr2] at h4
            obtain rfl : ev2 = .nilIface := h4
            have hrm := Ed.back_remove HNV.out (HR2.out.trans hr2)
            obtain ⟨hl0, y, hgy, hady⟩ := hrm
            obtain rfl : fv = some y := by rw [← HFV.out, hgy]
            subst hr2
            have hlp : 0 < l.length := List.length_pos_iff.2 hl0
            have hlp' : (0 : Int) < (l.length : Int) := by omega
            have HNU := Lib.hid (Ed.neat_edit HNV.out (.inl rfl) HR2.out)
            have HSU := Lib.hid (Ed.size_edit l HNV.out HR2.out)
            have HGY := Lib.hid (get_small HNV.out hgy)
            have HAY := Lib.hid hady
            have HHU := Lib.hid (show Handed u2 y l _ _ A cp wb5 from ⟨HD.out.2, HY.out.2, HH.out.hs, HH.out.he, HH.out.hm, HH.out.hA, HH.out.hl, HH.out.hns, HNU.out, HGY.out.1, by have := HSU.out; omega, by have := HGY.out.2; omega⟩)
            clear hgy hady
            go_upto_region 35 with (fail)
            obtain ⟨a0, a1, a2, a3, a4, a5, a6, a7⟩ := HD.out.1.eight
            have al := HD.out.1.lt
            obtain ⟨b0, b1, b2, b3, b4, b5, b6, b7⟩ := HY.out.1.eight
            have bl := HY.out.1.lt
            have HCD := Lib.hid ((HPP.out.add _ _ _ _ _ _ _ _ HHU.out).mono fun e9 w9 h9 => EditE.v HAY.out h9)
            clear HH HX
            go_wp2_with fail
            refine HCD.out.mono ?_
            rintro e9 w6 ⟨y9, ev4, rfl, hev4, hy, hb⟩
            obtain rfl : ev4 = .nilIface := hev4
            obtain ⟨o_1, o_2, o_3, o_4, o_5, o_6, o_7, o_8, o_9, o_a, o_b, o_c, rfl⟩ := In.cells hy
            have hba := hb.alloc hb.size (.cells #[.int .i64 o_1, .bool o_2, .bool o_3, .string ⟨o_4.toArray⟩, .int .i64 o_5, .string ⟨o_6.toArray⟩, .slice o_7 o_8 o_9, .slice o_a o_b o_c] 28)
            have HO := Lib.hid (show Bx (w6.alloc (.cells #[.int .i64 o_1, .bool o_2, .bool o_3, .string ⟨o_4.toArray⟩, .int .i64 o_5, .string ⟨o_6.toArray⟩, .slice o_7 o_8 o_9, .slice o_a o_b o_c] 28)) w6.heap.size v #[.int .i64 o_1, .bool o_2, .bool o_3, .string ⟨o_4.toArray⟩, .int .i64 o_5, .string ⟨o_6.toArray⟩, .slice o_7 o_8 o_9, .slice o_a o_b o_c] from ⟨Blk.new _ _ _, In.keep (le_alloc w6 _) _ _ hy⟩)
            clear a0 a1 a2 a3 a4 a5 a6 a7 al b0 b1 b2 b3 b4 b5 b6 b7 bl
            have HB' := Lib.hid (HB.out.trans (hba.mono HB.out.size))
            have HV' := Lib.hid (HV.out.on hba)
            clear HB HV hy hb
            have HB := Lib.hid HB'.out
            have HV := Lib.hid HV'.out
            clear HB' HV'
            clear hba HCD
            go_upto_region 36 with (fail)
            generalize w6.alloc (.cells #[.int .i64 o_1, .bool o_2, .bool o_3, .string ⟨o_4.toArray⟩, .int .i64 o_5, .string ⟨o_6.toArray⟩, .slice o_7 o_8 o_9, .slice o_a o_b o_c] 28) = wb6 at *
            generalize w6.heap.size = g6 at *
            obtain ⟨a0, a1, a2, a3, a4, a5, a6, a7⟩ := HO.out.1.eight
            have al := HO.out.1.lt
            obtain ⟨b0, b1, b2, b3, b4, b5, b6, b7⟩ := HV.out.1.eight
            have bl := HV.out.1.lt
            have hsm := refSame_any _ _ _ _ wb6 HO.out.2 HV.out.2
            rw [same_refl] at hsm
            have HSM := Lib.hid hsm
            clear hsm
            go_wp2_with fail
            refine HSM.out.mono ?_
            rintro e10 w10 ⟨rfl, hb10⟩
            clear a0 a1 a2 a3 a4 a5 a6 a7 al b0 b1 b2 b3 b4 b5 b6 b7 bl
            have HB' := Lib.hid (HB.out.trans (hb10.mono HB.out.size))
            have HV' := Lib.hid (HV.out.on hb10)
            clear HB HV
            have HB := Lib.hid HB'.out
            have HV := Lib.hid HV'.out
            clear HB' HV'
            clear hb10
            obtain ⟨a0, a1, a2, a3, a4, a5, a6, a7⟩ := HV.out.1.eight
            have al := HV.out.1.lt
            have HS9 := Lib.hid (HSH.out _ HV.out)
            go_wp2_with fail
            refine HS9.out.mono ?_
            rintro e11 w11 ⟨rfl, hb11⟩
            have HB9 := Lib.hid (HB.out.trans (hb11.mono HB.out.size))
            clear hb11
            go_wp2_with fail
            go_ret
            exact ⟨rfl, HB9.out⟩

end Go.Proofs.Ytmdpjhcghdjmmaa

