/- Mm: Sj Sk Sl, in one text. -/
import Derived.Test.YtnnklbfpgmndoaaGreatDoorMl
import Derived.Test.YtnnklbfpgmndoaaGreatDoorMd
import Derived.Test.YtnnklbfpgmndoaaGreatDoorMi
/- The walks of layer 2 (str), fifth part: character, the Builder's WriteRune. -/
namespace Go.Proofs.YtnnklbfpgmndoaaGreatDoor
open Go.RowKit

/-- The two tables of Go's library that a character is told by. -/
abbrev Tabs (w : World) : Prop := Lib.Utf8Tabs 2 3 w

theorem Tabs.keep {w w' : World} {B : Nat} (h : Tabs w) (hb : Below B w w') (h1 : 2 < B) (h2 : 3 < B) : Tabs w' := by
  obtain ⟨a, b⟩ := h
  exact ⟨fun c hc => (hb.cell (p := ⟨_, c, none⟩) h1).trans (a c hc), fun i hi => ⟨(hb.cell (p := ⟨_, 2 * i, none⟩) h2).trans (b i hi).1, (hb.cell (p := ⟨_, 2 * i + 1, none⟩) h2).trans (b i hi).2⟩⟩
theorem Tabs.lt {w : World} (h : Tabs w) : 2 < w.heap.size ∧ 3 < w.heap.size :=
  ⟨World.block_lt_of_cell? w _ (h.1 0 (by decide)), World.block_lt_of_cell? w _ (h.2 0 (by decide)).1⟩
theorem Tabs.on {w w' : World} (h : Tabs w) (hb : Below w.heap.size w w') : Tabs w' := h.keep hb h.lt.1 h.lt.2

set_option linter.unusedSimpArgs false in
set_option maxHeartbeats 1000000 in
theorem character_any (s : ByteArray) (i : Nat) (w : World) (hs : s.size ≤ 4000000000000000000) (hi : i < s.size) (hT : Tabs w) :
    Calls Tryz.prog 95 #[.string s, .int .i64 i] w (ChrPost i (St.chr (s.data.toList.drop i)) w) := by
  have HT := Lib.hid hT
  clear hT
  have hd := drop_at s i hi
  have HES := Lib.hid (fun w => escape_any s i w hs hi)
  have hix : ∀ h, s[i]'h = s.data.toList[i]'(len_at hi) := fun _ => rfl
  have HF := Lib.hid (Lib.extract_from s i)
  rw [hd] at HF ⊢
  clear hd
  generalize s.data.toList[i]'(len_at hi) = c at hix HF ⊢
  generalize s.data.toList.drop (i + 1) = t at HF HES ⊢
  have HX := Lib.hid (St.chr_cons c t)
  have h256 := c.toNat_lt
  by_cases h32 : c.toNat < 32
  · rw [if_pos h32] at HX
    go_enter Tryz.func95, Tryz.ntmps95
    go_wp2_with fail
    refine (wrong_any _ _ _).mono ?_
    rintro e w' ⟨rfl, rfl⟩
    go_wp2
    go_ret3
    exact ChrPost.bad HX.out (Bad.new' _ (Below.refl _ _) (by omega) rfl)
  · rw [if_neg h32] at HX
    by_cases c92 : c = 92
    · have b92 : ((c.toNat : Int) == 92) = true := byte_eqb 92 c92
      rw [if_pos c92] at HX
      clear c92
      go_enter Tryz.func95, Tryz.ntmps95
      go_wp2_with fail
      refine (HES.out _).mono ?_
      intro e w' h
      rw [← HX.out] at h
      cases hn : St.chr (c :: t) with
      | ok r n =>
        rw [hn] at h
        obtain ⟨rfl, hb⟩ := h
        have HN := Lib.hid hn
        clear hn
        go_wp2
        go_ret3
        exact ChrPost.ok HN.out ⟨rfl, hb⟩
      | bad k o =>
        rw [hn] at h
        obtain ⟨b, rfl, hb1, hb2, hb3⟩ := h
        have HN := Lib.hid hn
        clear hn
        go_wp2
        go_ret3
        exact ChrPost.bad HN.out ⟨b, rfl, hb1, hb2, hb3⟩
    · have b92 : ((c.toNat : Int) == 92) = false := byte_neb 92 c92
      rw [if_neg c92] at HX
      clear c92 HES
      have hne : (c :: t) ≠ [] := by simp
      by_cases hu : St.utf8 (c :: t) = 0
      · have HD := Lib.hid (St.decode_bad hne hu)
        rw [if_pos hu] at HX
        clear hu hne
        go_enter Tryz.func95, Tryz.ntmps95
        go_wp2_with fail
        rw [HF.out]
        refine (Tryz.utf8_DecodeRuneInString _ _ HT.out).mono ?_
        rw [HD.out]
        rintro e w1 ⟨rfl, hb⟩
        go_wp2_with fail
        refine (wrong_any _ _ _).mono ?_
        rintro e w' ⟨rfl, rfl⟩
        go_wp2
        go_ret3
        exact ChrPost.bad HX.out (Bad.new' _ hb (by omega) rfl)
      · obtain ⟨hd1, hd2⟩ := St.decode_good hne hu
        have HD := Lib.hid hd1
        rw [if_neg hu] at HX
        have hsc := St.rune_scalar _ hu
        clear hd1 hu hne
        have hle := St.utf8_le (c :: t)
        generalize St.rune (c :: t) = r at HX HD hd2 hsc
        generalize St.utf8 (c :: t) = n at HX HD hd2 hle
        have hq : ((r : Int) == 65533) = false ∨ (((r : Int) == 65533) = true ∧ ((n : Int) == 1) = false) := by
          by_cases e : r = 65533
          · right
            refine ⟨by simp [e], ?_⟩
            rw [beq_eq_false_iff_ne]
            rcases hd2 with h | h
            · exact absurd e h
            · omega
          · left; rw [beq_eq_false_iff_ne]; omega
        clear hd2
        rcases hq with hq | ⟨hq, hq'⟩
        all_goals
          go_enter Tryz.func95, Tryz.ntmps95
          go_wp2_with fail
          rw [HF.out]
          refine (Tryz.utf8_DecodeRuneInString _ _ HT.out).mono ?_
          rw [HD.out]
          rintro e w1 ⟨rfl, hb⟩
          go_wp2
          go_ret3
          exact ChrPost.ok HX.out ⟨rfl, hb⟩

set_option maxHeartbeats 2000000 in
set_option maxRecDepth 100000 in
/-- WriteRune: a character more. -/
theorem writeRune_any (B b : Nat) (bs : List Value) (r : Int) (hr0 : -2147483648 ≤ r) (hr1 : r ≤ 2147483647) (w : World) (h : Lib.IsBuilder 65 5 B b bs w) (hlen : bs.length + 4 ≤ 140737488355328) (hBw : B ≤ w.heap.size) :
    Calls Tryz.prog 96 #[.pointer (some ⟨b, 0, none⟩), .int .i32 r] w fun e w' => e = .returned (.tuple #[.int .i64 (Lib.runeCells r).length, .nilIface]) ∧ (Lib.IsBuilder 65 5 B b (bs ++ Lib.runeCells r) w' ∧ Below B w w') := by
  have hk4 := Lib.runeCells_le r
  go_enter Tryz.func96, Tryz.ntmps96
  go_wp2_with (go_at_call 55; refine (copyCheck_any B b bs _ h).mono ?_)
  rintro e w1 ⟨rfl, h1, hb1⟩
  obtain ⟨hB, v, hbk, hown, hne⟩ := h1
  obtain ⟨ao, cap, rfl⟩ : ∃ ao cap, v = .slice ao bs.length cap := by
    rcases hown.2 with ⟨hv, h0⟩ | ⟨g, cap, cur, hv, _⟩
    · exact ⟨none, 0, by rw [hv, h0]⟩
    · exact ⟨_, _, hv⟩
  have c0 : w1.cell? ⟨b, 0, none⟩ = some (.pointer (some ⟨b, 0, none⟩)) := by rw [Lib.cell_of_heap hbk]; rfl
  have c1 : w1.cell? ⟨b, 1, none⟩ = some (.slice ao bs.length cap) := by rw [Lib.cell_of_heap hbk]; rfl
  go_wp2_with (go_at_call 124; refine (Tryz.utf8_AppendRune_plain B _ bs.length bs r hr0 hr1 _ hown hlen (by have := hb1.size; omega)).mono ?_)
  rintro e w2 ⟨v', rfl, hown', o, hgrow⟩
  have hlt : b < w1.heap.size := by
    rcases Nat.lt_or_ge b w1.heap.size with h' | h'
    · exact h'
    · simp [Array.getElem?_eq_none h'] at hbk
  have hb2 : w2.heap[b]? = some (.cells #[.pointer (some ⟨b, 0, none⟩), .slice ao bs.length cap] 65 (0, 0)) := by
    rw [hgrow.block b (by simp; omega) (fun e => hne e.symm), Lib.alloc_old w1 _ b hlt]
    exact hbk
  have d0 : w2.cell? ⟨b, 0, none⟩ = some (.pointer (some ⟨b, 0, none⟩)) := by rw [Lib.cell_of_heap hb2]; rfl
  have d1 : w2.cell? ⟨b, 1, none⟩ = some (.slice ao bs.length cap) := by rw [Lib.cell_of_heap hb2]; rfl
  have f1 : w2.frozen? ⟨b, 1, none⟩ = false := Lib.frozen_of_heap hb2 1
  obtain ⟨g, cap', rfl⟩ : ∃ g cap', v' = .slice (some ⟨g, 0, none⟩) (bs.length + (Lib.runeCells r).length) cap' := by
    rcases hown'.2 with ⟨_, h0⟩ | ⟨g, cap', cur, hv, _⟩
    · omega
    · exact ⟨g, cap', hv⟩
  go_wp2
  go_ret2
  refine ⟨?_, .inr ?_, ?_⟩
  · have e : ((bs.length : Int) + ((Lib.runeCells r).length : Int) - (bs.length : Int)) = ((Lib.runeCells r).length : Int) := by omega
    simp [e]
  · exact Lib.BuilderAt.put (T := 65) (e := 5) hB hb2 (bs' := bs ++ Lib.runeCells r) (by simpa using hown') (by decide)
  · exact ((hb1.alloc (by have := hb1.size; omega) _).grown hgrow (by have := hb1.size; simp; omega) (fun k hk => (hown.lt k hk).1)).setCell (p := ⟨b, 1, none⟩) hB _

end Go.Proofs.YtnnklbfpgmndoaaGreatDoor

/- The walks of layer 2 (str), sixth part: Unquote. -/
namespace Go.Proofs.YtnnklbfpgmndoaaGreatDoor
open Go.RowKit

/-- What Unquote tells. -/
def UnqPost (r : St.Ans) (w : World) (e : Ending) (w' : World) : Prop :=
  (r.code = 0 ∧ e = .returned (.tuple #[.string ⟨r.text.toArray⟩, .int .i64 r.n, .nilIface]) ∧ Below w.heap.size w w') ∨
  ((r.code = 1 ∨ r.code = 2) ∧ r.text = [] ∧ r.n = 0 ∧ Bad (.string ⟨#[]⟩) r.place r.code w e w')

theorem UnqPost.bad {r : St.Ans} {w w' : World} {e : Ending} {k : Nat} {p : Int} (hr : r = ⟨[], 0, k, p⟩) (hk : k = 1 ∨ k = 2) (h : Bad (.string ⟨#[]⟩) p k w e w') : UnqPost r w e w' := by
  subst hr; exact .inr ⟨hk, rfl, rfl, h⟩
theorem UnqPost.ok {r : St.Ans} {w w' : World} {e : Ending} {t : List UInt8} {n : Nat} (hr : r = ⟨t, n, 0, 0⟩) (he : e = .returned (.tuple #[.string ⟨t.toArray⟩, .int .i64 n, .nilIface])) (h : Below w.heap.size w w') : UnqPost r w e w' := by
  subst hr; exact .inl ⟨rfl, he, h⟩

theorem builder_on {T e : TypeId} {B b : Nat} {bs : List Value} {w w' : World} (h : Lib.IsBuilder T e B b bs w) (hb : Below w.heap.size w w') : Lib.IsBuilder T e B b bs w' := by
  have hg : w.grownBy w' none := ⟨hb.os, hb.tape, hb.output, hb.size, fun k hk _ => hb.block k hk⟩
  rcases h with h | h
  all_goals
    have hlt := h.lt
    obtain ⟨hB, v, hbk, hown, hne⟩ := h
  · exact .inl ⟨hB, v, (hb.block b hlt).trans hbk, hown.kept hg (by cases v.ownBlock <;> simp), hne⟩
  · exact .inr ⟨hB, v, (hb.block b hlt).trans hbk, hown.kept hg (by cases v.ownBlock <;> simp), hne⟩

/-- The world while Unquote goes over its text: the builder with its bytes; what is older is as it was. -/
structure Writing (w : World) (out : List UInt8) (wr : World) : Prop where
  b : Lib.IsBuilder 65 5 w.heap.size w.heap.size (Lib.byteCells out) wr
  below : Below w.heap.size w wr
  size : w.heap.size + 1 ≤ wr.heap.size

theorem Writing.start (w : World) : Writing w [] (w.alloc (.cells #[.pointer none, .slice none 0 0] 65)) :=
  ⟨by have h := Lib.fresh_isBuilder 65 5 w; simpa [Lib.byteCells] using h, (Below.refl _ _).alloc (Nat.le_refl _) _, by simp⟩
theorem Writing.on {w : World} {out : List UInt8} {wr w' : World} (h : Writing w out wr) (hb : Below wr.heap.size wr w') : Writing w out w' :=
  ⟨builder_on h.b hb, h.below.trans (hb.mono h.below.size), by have := hb.size; have := h.size; omega⟩
theorem Writing.next {w : World} {out out' : List UInt8} {wr w' : World} (h : Writing w out wr) (hb : Below w.heap.size wr w') (hl : Lib.IsBuilder 65 5 w.heap.size w.heap.size (Lib.byteCells out') w') : Writing w out' w' :=
  ⟨hl, h.below.trans hb, by have := hb.size; have := h.size; omega⟩

/-- How far Unquote has come. -/
def Goes (w : World) (l : List UInt8) (n : Nat) (R : St.Res) (v : Value) (wr : World) (k : Nat) : Prop :=
  ∃ out f, n < k ∧ k ≤ l.length ∧ v = .int .i64 k ∧ out.length ≤ 4 * k ∧ l.length - k < f ∧ St.run f (l.drop k) out k = R ∧ Writing w out wr

set_option linter.unusedSimpArgs false in
set_option maxRecDepth 100000 in
set_option maxHeartbeats 1000000 in
theorem unquote_any (s : ByteArray) (a : Int) (w : World) (hs : s.size ≤ 1000000) (ha0 : -9223372036854775808 ≤ a) (ha1 : a ≤ 9223372036854775807) (hT : Tabs w) :
    Calls Tryz.prog 81 #[.string s, .int .i64 a] w (UnqPost (St.unq s.data.toList a) w) := by
  have HT := Lib.hid hT
  have hsl : s.data.toList.length = s.size := (Lib.size_eq s).symm
  have HSL := Lib.hid hsl
  clear hT hsl
  by_cases h0 : a < 0 ∨ s.size ≤ a
  · have HX := Lib.hid (show St.unq s.data.toList a = ⟨[], 0, 1, a⟩ by
      unfold St.unq
      rw [if_neg]
      rintro ⟨k1, k2⟩
      rw [List.getElem?_eq_none (by rw [HSL.out]; omega)] at k2
      cases k2)
    rcases h0 with h0 | h0
    · go_enter Tryz.func81, Tryz.ntmps81
      go_wp2_with fail
      refine (wrong_any _ _ _).mono ?_
      rintro e w' ⟨rfl, rfl⟩
      go_wp2
      go_ret3
      exact UnqPost.bad HX.out (.inl rfl) (Bad.new' _ (Below.refl _ _) rfl rfl)
    · have h0' : 0 ≤ a := by omega
      go_enter Tryz.func81, Tryz.ntmps81
      go_wp2_with fail
      refine (wrong_any _ _ _).mono ?_
      rintro e w' ⟨rfl, rfl⟩
      go_wp2
      go_ret3
      exact UnqPost.bad HX.out (.inl rfl) (Bad.new' _ (Below.refl _ _) rfl rfl)
  · obtain ⟨n, rfl⟩ := Int.eq_ofNat_of_zero_le (show 0 ≤ a by omega)
    have hn : n < s.size := by omega
    clear h0 ha0 ha1
    have hix : ∀ h, s[n]'h = s.data.toList[n]'(len_at hn) := fun _ => rfl
    have HX := Lib.hid (show St.unq s.data.toList (n : Int) = if s.data.toList[n]'(len_at hn) = 34 then (St.run (s.data.toList.length + 1) (s.data.toList.drop (n + 1)) [] (n + 1)).ans n else ⟨[], 0, 1, n⟩ by
      unfold St.unq
      rw [Int.toNat_natCast, List.getElem?_eq_getElem (len_at hn)]
      simp only [Int.natCast_nonneg, Option.some.injEq, true_and])
    generalize s.data.toList[n]'(len_at hn) = c at hix HX
    by_cases hc : c = 34
    · have b1 : ((c.toNat : Int) == 34) = true := byte_eqb 34 hc
      have b2 : ((c.toNat : Int) != 34) = false := by rw [bne, b1]; rfl
      rw [if_pos hc] at HX
      clear hc
      generalize hR : St.run (s.data.toList.length + 1) (s.data.toList.drop (n + 1)) [] (n + 1) = R at HX
      have HR := Lib.hid hR
      clear hR
      have dn0 : decide ((n : Int) < 0) = false := by simp
      have dsn : decide (s.size ≤ n) = false := by simp; omega
      go_enter Tryz.func81, Tryz.ntmps81
      go_wp2_with fail
      go_loopw [8] (fun v wr => ∃ k, Goes w s.data.toList n R v wr k) (fun v _ => s.size - (intOf v).toNat)
      case atStart => exact ⟨n + 1, [], _, by omega, by rw [HSL.out]; omega, by go_num, by simp, by omega, HR.out, Writing.start w⟩
      case round =>
        obtain ⟨k, out, f, hnk, hk, rfl, hol, hf, hrun, hW⟩ := hrel
        rw [HSL.out] at hk hf
        have HRUN := Lib.hid hrun
        clear hrun
        obtain ⟨f, rfl⟩ : ∃ f', f = f' + 1 := ⟨f - 1, by omega⟩
        by_cases hlt : k < s.size
        · have hd := drop_at s k hlt
          have HCH := Lib.hid (fun w hT => character_any s k w (by omega) hlt hT)
          have hix2 : ∀ h, s[k]'h = s.data.toList[k]'(len_at hlt) := fun _ => rfl
          have hdl : (s.data.toList.drop k).length = s.size - k := by rw [List.length_drop, HSL.out]
          have hdd : ∀ n, (s.data.toList.drop k).drop n = s.data.toList.drop (k + n) := fun n => by rw [List.drop_drop]
          rw [hd] at HRUN HCH hdl hdd
          clear hd
          generalize s.data.toList[k]'(len_at hlt) = d at hix2 HRUN HCH hdl hdd
          generalize s.data.toList.drop (k + 1) = t at HRUN HCH hdl hdd
          by_cases hd34 : d = 34
          · have d1 : ((d.toNat : Int) == 34) = true := byte_eqb 34 hd34
            have d2 : ((d.toNat : Int) != 34) = false := by rw [bne, d1]; rfl
            have HRES := Lib.hid (show R = .ok out (k + 1) by rw [← HRUN.out, hd34, St.run_stop])
            clear hd34 HCH HRUN
            have dk : ((k : Int) == (s.size : Int)) = false := by rw [beq_eq_false_iff_ne]; omega
            go_wp2_with fail
            refine (Tryz.Builder_String_any _ _ _ _ hW.b hW.below.size).mono ?_
            rintro e w3 ⟨rfl, hb3⟩
            go_wp2
            go_ret3
            refine UnqPost.ok (t := out) (n := k + 1 - n) (by rw [HX.out, HRES.out]; rfl) ?_ (hW.below.trans hb3)
            show Ending.returned (.tuple #[.string ⟨out.toArray⟩, .int .i64 ((k : Int) + 1 - (n : Int)), .nilIface]) = _
            rw [show (k : Int) + 1 - (n : Int) = ((k + 1 - n : Nat) : Int) by omega]
          · have d1 : ((d.toNat : Int) == 34) = false := byte_neb 34 hd34
            have d2 : ((d.toNat : Int) != 34) = true := by rw [bne, d1]; rfl
            have hTr : Tabs wr := HT.out.on hW.below
            go_wp2_with fail
            refine (HCH.out _ hTr).mono ?_
            intro e w1 h
            cases hch : St.chr (d :: t) with
            | bad kk o =>
              rw [hch] at h
              obtain ⟨b, rfl, hb1, hb2, hb3⟩ := h
              have HRES := Lib.hid (show R = .bad kk (k + o) by rw [← HRUN.out, St.run_bad f out k hd34 hch])
              have hcode := (St.chr_bad hch).1
              clear hch hd34 HRUN HCH hTr
              go_wp2
              go_ret3
              refine UnqPost.bad (k := kk) (p := ((k + o : Nat) : Int)) (by rw [HX.out, HRES.out]; rfl) hcode ⟨b, rfl, ?_, hb2, hW.below.trans (hb3.mono hW.below.size)⟩
              have := hW.below.size
              omega
            | ok r m =>
              rw [hch] at h
              obtain ⟨rfl, hb1⟩ := h
              obtain ⟨m1, m2, m3, _⟩ := St.chr_ok hch
              have HRES := Lib.hid (show St.run f (s.data.toList.drop (k + m)) (out ++ Lib.encodeRune (r : Int)) (k + m) = R by rw [← HRUN.out, St.run_more f out k hd34 hch, hdd])
              rw [hdl] at m2
              clear hch hd34 HRUN HCH hTr hdd hdl
              have hr1 : r ≤ 1114111 := by unfold St.scalar at m3; omega
              have hW1 := hW.on hb1
              go_wp2_with fail
              refine (writeRune_any _ _ _ (r : Int) (by omega) (by omega) _ hW1.b (by rw [Lib.byteCells_length]; omega) hW1.below.size).mono ?_
              rw [← Lib.byteCells_encodeRune, ← Lib.byteCells_append]
              rintro e w2 ⟨rfl, hb2, hb3⟩
              have hW2 := hW1.next hb3 hb2
              have hle := (Lib.runeCells_le (r : Int)).2
              rw [Lib.runeCells_length] at hle
              go_wp2
              go_roundw
              case rel => exact ⟨k + m, out ++ Lib.encodeRune (r : Int), f, by omega, by rw [HSL.out]; omega, by go_num, by rw [List.length_append]; omega, by rw [HSL.out]; omega, HRES.out, hW2⟩
              case measure => simp [intOf]; omega
        · obtain rfl : k = s.size := by omega
          have HRES := Lib.hid (show R = .bad 1 s.size by rw [← HRUN.out, List.drop_eq_nil_of_le (by rw [HSL.out]; omega)]; rfl)
          clear HRUN
          go_wp2_with fail
          refine (wrong_any _ _ _).mono ?_
          rintro e w' ⟨rfl, rfl⟩
          go_wp2
          go_ret3
          exact UnqPost.bad (k := 1) (p := (s.size : Int)) (by rw [HX.out, HRES.out]; rfl) (.inl rfl) (Bad.new' _ hW.below rfl rfl)
    · have b1 : ((c.toNat : Int) == 34) = false := byte_neb 34 hc
      have b2 : ((c.toNat : Int) != 34) = true := by rw [bne, b1]; rfl
      rw [if_neg hc] at HX
      clear hc
      go_enter Tryz.func81, Tryz.ntmps81
      go_wp2_with fail
      refine (wrong_any _ _ _).mono ?_
      rintro e w' ⟨rfl, rfl⟩
      go_wp2
      go_ret3
      exact UnqPost.bad HX.out (.inl rfl) (Bad.new' _ (Below.refl _ _) rfl rfl)

end Go.Proofs.YtnnklbfpgmndoaaGreatDoor

/- The walks of layer 2 (str), seventh part: Quote. -/
namespace Go.Proofs.YtnnklbfpgmndoaaGreatDoor
open Go.RowKit

theorem byteCells_one (out : List UInt8) (c : UInt8) : Lib.byteCells out ++ [Value.int .u8 (c.toNat : Int)] = Lib.byteCells (out ++ [c]) := by
  rw [Lib.byteCells_append]; rfl

/-- WriteByte while a text is written. -/
theorem write_byte (w : World) (out : List UInt8) (c : UInt8) (wr : World) (h : Writing w out wr) (hl : out.length ≤ 100000000) :
    Calls Tryz.prog 57 #[.pointer (some ⟨w.heap.size, 0, none⟩), .int .u8 c.toNat] wr fun e w' => e = .returned .nilIface ∧ Writing w (out ++ [c]) w' := by
  refine (writeByte_any _ _ _ _ _ h.b (by rw [Lib.byteCells_length]; omega) h.below.size).mono ?_
  rw [byteCells_one]
  rintro e w' ⟨he, hb1, hb2⟩
  exact ⟨he, h.next hb2 hb1⟩
theorem write_text (w : World) (out : List UInt8) (t : List UInt8) (wr : World) (h : Writing w out wr) (hl : out.length + t.length ≤ 100000000) :
    Calls Tryz.prog 34 #[.pointer (some ⟨w.heap.size, 0, none⟩), .string ⟨t.toArray⟩] wr fun e w' => e = .returned (.tuple #[.int .i64 (⟨t.toArray⟩ : ByteArray).size, .nilIface]) ∧ Writing w (out ++ t) w' := by
  refine (writeString_any _ _ _ _ _ h.b (by rw [Lib.byteCells_length, Lib.size_mk]; omega) h.below.size).mono ?_
  rw [show Lib.strCells ⟨t.toArray⟩ = Lib.byteCells t from rfl, ← Lib.byteCells_append]
  rintro e w' ⟨he, hb1, hb2⟩
  exact ⟨he, h.next hb2 hb1⟩

theorem qb_take (l : List UInt8) (k : Nat) (h : k < l.length) : St.qb (l.take (k + 1)) = St.qb (l.take k) ++ St.qc l[k] := by
  rw [List.take_succ_eq_append_getElem h, St.qb_append]
  simp [St.qb]
theorem qc_len (c : UInt8) : (St.qc c).length ≤ 6 := by
  unfold St.qc; repeat' split
  all_goals simp
theorem qb_len (l : List UInt8) : (St.qb l).length ≤ 6 * l.length := by
  induction l with
  | nil => simp [St.qb]
  | cons c t ih => rw [St.qb_cons, List.length_append, List.length_cons]; have := qc_len c; omega

theorem hexTab : ∀ (d : Nat) (h : d < 16), (⟨#[48, 49, 50, 51, 52, 53, 54, 55, 56, 57, 97, 98, 99, 100, 101, 102]⟩ : ByteArray)[d]'h = St.hexd d := by decide

/-- How far Quote has come. -/
def Quoting (w : World) (l : List UInt8) (v : Value) (wr : World) (k : Nat) : Prop :=
  k ≤ l.length ∧ v = .int .i64 k ∧ Writing w (34 :: St.qb (l.take k)) wr

set_option linter.unusedSimpArgs false in
set_option maxRecDepth 100000 in
set_option maxHeartbeats 1000000 in
theorem quote_any (s : ByteArray) (w : World) (hs : s.size ≤ 1000000) :
    Calls Tryz.prog 37 #[.string s] w fun e w' => e = .returned (.string ⟨(St.quote s.data.toList).toArray⟩) ∧ Below w.heap.size w w' := by
  have hsl : s.data.toList.length = s.size := (Lib.size_eq s).symm
  have HSL := Lib.hid hsl
  clear hsl
  go_enter Tryz.func37, Tryz.ntmps37
  go_wp2_with fail
  refine (write_byte w [] 34 _ (Writing.start w) (by simp)).mono ?_
  rintro e w1 ⟨rfl, hw1⟩
  have hw1' : Writing w (34 :: St.qb (s.data.toList.take 0)) w1 := hw1
  clear hw1
  go_wp2_with fail
  go_loopw [9] (fun v wr => ∃ k, Quoting w s.data.toList v wr k) (fun v _ => s.size - (intOf v).toNat)
  case atStart => exact ⟨0, by omega, rfl, hw1'⟩
  case round =>
    obtain ⟨k, hk, rfl, hW⟩ := hrel
    rw [HSL.out] at hk
    by_cases hlt : k < s.size
    · have HQ := Lib.hid (qb_take s.data.toList k (len_at hlt))
      have hix : ∀ h, s[k]'h = s.data.toList[k]'(len_at hlt) := fun _ => rfl
      have hql : (St.qb (s.data.toList.take k)).length ≤ 6000000 := by
        have h1 := qb_len (s.data.toList.take k)
        have h2 := List.length_take_le k s.data.toList
        omega
      generalize s.data.toList[k]'(len_at hlt) = c at HQ hix
      generalize St.qb (s.data.toList.take k) = out at HQ hW hql
      by_cases c1 : c = 34 ∨ c = 92
      · have HC : Hid (St.qc c = [92, c]) := Lib.hid (by unfold St.qc; rw [if_pos c1])
        have hb : ((c.toNat : Int) == 34) = true ∨ (((c.toNat : Int) == 34) = false ∧ ((c.toNat : Int) == 92) = true) := by
          rcases c1 with rfl | rfl
          · left; rfl
          · right; exact ⟨rfl, rfl⟩
        clear c1
        rcases hb with hb | ⟨hb, hb'⟩
        all_goals
          go_wp2_with fail
          refine (write_byte w _ 92 _ hW (by rw [List.length_cons]; omega)).mono ?_
          rintro e w2 ⟨rfl, hw2⟩
          go_wp2_with fail
          refine (write_byte w _ c _ hw2 (by rw [List.length_append, List.length_cons]; simp; omega)).mono ?_
          rintro e w3 ⟨rfl, hw3⟩
          go_wp2
          go_roundw
          case rel => exact ⟨k + 1, by rw [HSL.out]; omega, by go_num, by rw [HQ.out, HC.out]; simpa using hw3⟩
          case measure => simp [intOf]; omega
      · by_cases c2 : c.toNat < 32
        · have HC : Hid (St.qc c = [92, 117, 48, 48, St.hexd (c.toNat / 16), St.hexd (c.toNat % 16)]) := Lib.hid (by unfold St.qc; rw [if_neg c1, if_pos c2])
          have b1 : ((c.toNat : Int) == 34) = false := byte_neb 34 (fun e => c1 (.inl e))
          have b2 : ((c.toNat : Int) == 92) = false := byte_neb 92 (fun e => c1 (.inr e))
          clear c1
          go_wp2_with fail
          refine (write_text w _ [92, 117, 48, 48] _ hW (by rw [List.length_cons]; simp; omega)).mono ?_
          rintro e w2 ⟨rfl, hw2⟩
          go_wp2_with fail
          refine (write_byte w _ _ _ hw2 (by rw [List.length_append, List.length_cons]; simp; omega)).mono ?_
          rintro e w3 ⟨rfl, hw3⟩
          rw [hexTab (c.toNat / 16) (by omega)] at hw3
          go_wp2_with fail
          refine (write_byte w _ _ _ hw3 (by rw [List.length_append, List.length_append, List.length_cons]; simp; omega)).mono ?_
          rintro e w4 ⟨rfl, hw4⟩
          rw [hexTab (c.toNat % 16) (by omega)] at hw4
          go_wp2
          go_roundw
          case rel => exact ⟨k + 1, by rw [HSL.out]; omega, by go_num, by rw [HQ.out, HC.out]; simpa using hw4⟩
          case measure => simp [intOf]; omega
        · have HC : Hid (St.qc c = [c]) := Lib.hid (by unfold St.qc; rw [if_neg c1, if_neg c2])
          have b1 : ((c.toNat : Int) == 34) = false := byte_neb 34 (fun e => c1 (.inl e))
          have b2 : ((c.toNat : Int) == 92) = false := byte_neb 92 (fun e => c1 (.inr e))
          clear c1
          go_wp2_with fail
          refine (write_byte w _ c _ hW (by rw [List.length_cons]; omega)).mono ?_
          rintro e w2 ⟨rfl, hw2⟩
          go_wp2
          go_roundw
          case rel => exact ⟨k + 1, by rw [HSL.out]; omega, by go_num, by rw [HQ.out, HC.out]; simpa using hw2⟩
          case measure => simp [intOf]; omega
    · obtain rfl : k = s.size := by omega
      have hql := qb_len s.data.toList
      rw [HSL.out] at hql
      rw [show s.data.toList.take s.size = s.data.toList from by rw [← HSL.out, List.take_length]] at hW
      go_wp2_with fail
      refine (write_byte w _ 34 _ hW (by rw [List.length_cons]; omega)).mono ?_
      rintro e w2 ⟨rfl, hw2⟩
      go_wp2_with fail
      refine (Tryz.Builder_String_any _ _ _ _ hw2.b hw2.below.size).mono ?_
      rintro e w3 ⟨rfl, hb3⟩
      go_wp2
      go_ret
      exact ⟨rfl, hw2.below.trans hb3⟩

end Go.Proofs.YtnnklbfpgmndoaaGreatDoor


