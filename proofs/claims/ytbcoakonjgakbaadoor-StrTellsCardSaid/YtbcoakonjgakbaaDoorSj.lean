/- The walks of layer 2 (str), fifth part: character, the Builder's WriteRune. -/
import Derived.Test.YtbcoakonjgakbaaDoorSh
import Derived.Test.YtbcoakonjgakbaaDoorSi
import Derived.Test.YtbcoakonjgakbaaDoorWe
namespace Go.Proofs.YtbcoakonjgakbaaDoor
open Go.RowKit

/-- The two tables of Go's library that a character is told by. -/
abbrev Tabs (w : World) : Prop := Lib.Utf8Tabs 1 2 w

theorem Tabs.keep {w w' : World} {B : Nat} (h : Tabs w) (hb : Below B w w') (h1 : 1 < B) (h2 : 2 < B) : Tabs w' := by
  obtain ⟨a, b⟩ := h
  exact ⟨fun c hc => (hb.cell (p := ⟨_, c, none⟩) h1).trans (a c hc), fun i hi => ⟨(hb.cell (p := ⟨_, 2 * i, none⟩) h2).trans (b i hi).1, (hb.cell (p := ⟨_, 2 * i + 1, none⟩) h2).trans (b i hi).2⟩⟩
theorem Tabs.lt {w : World} (h : Tabs w) : 1 < w.heap.size ∧ 2 < w.heap.size :=
  ⟨World.block_lt_of_cell? w _ (h.1 0 (by decide)), World.block_lt_of_cell? w _ (h.2 0 (by decide)).1⟩
theorem Tabs.on {w w' : World} (h : Tabs w) (hb : Below w.heap.size w w') : Tabs w' := h.keep hb h.lt.1 h.lt.2

set_option linter.unusedSimpArgs false in
set_option maxHeartbeats 1000000 in
theorem character_any (s : ByteArray) (i : Nat) (w : World) (hs : s.size ≤ 4000000000000000000) (hi : i < s.size) (hT : Tabs w) :
    Calls Tryd.prog 42 #[.string s, .int .i64 i] w (ChrPost i (St.chr (s.data.toList.drop i)) w) := by
  have HT := Lib.hid hT
  clear hT
  have hd := drop_at s i hi
  have HES := Lib.hid (fun w => escape_any s i w hs hi)
  have hix : ∀ h, s[i]'h = s.data.toList[i]'(len_at hi) := fun _ => rfl
  have HF := Lib.hid (Lib.extract_from s i)
  rw [hd] at HF ⊢
  clear hd
  generalize s.data.toList[i]'(len_at hi) = c at hix HF ⊢
  generalize s.data.toList.drop (i + 1) = t at HF HES ⊢
  have HX := Lib.hid (St.chr_cons c t)
  have h256 := c.toNat_lt
  by_cases h32 : c.toNat < 32
  · rw [if_pos h32] at HX
    go_enter Tryd.func42, Tryd.ntmps42
    go_wp2_with fail
    refine (wrong_any _ _ _).mono ?_
    rintro e w' ⟨rfl, rfl⟩
    go_wp2
    go_ret3
    exact ChrPost.bad HX.out (Bad.new' _ (Below.refl _ _) (by omega) rfl)
  · rw [if_neg h32] at HX
    by_cases c92 : c = 92
    · have b92 : ((c.toNat : Int) == 92) = true := byte_eqb 92 c92
      rw [if_pos c92] at HX
      clear c92
      go_enter Tryd.func42, Tryd.ntmps42
      go_wp2_with fail
      refine (HES.out _).mono ?_
      intro e w' h
      rw [← HX.out] at h
      cases hn : St.chr (c :: t) with
      | ok r n =>
        rw [hn] at h
        obtain ⟨rfl, hb⟩ := h
        have HN := Lib.hid hn
        clear hn
        go_wp2
        go_ret3
        exact ChrPost.ok HN.out ⟨rfl, hb⟩
      | bad k o =>
        rw [hn] at h
        obtain ⟨b, rfl, hb1, hb2, hb3⟩ := h
        have HN := Lib.hid hn
        clear hn
        go_wp2
        go_ret3
        exact ChrPost.bad HN.out ⟨b, rfl, hb1, hb2, hb3⟩
    · have b92 : ((c.toNat : Int) == 92) = false := byte_neb 92 c92
      rw [if_neg c92] at HX
      clear c92 HES
      have hne : (c :: t) ≠ [] := by simp
      by_cases hu : St.utf8 (c :: t) = 0
      · have HD := Lib.hid (St.decode_bad hne hu)
        rw [if_pos hu] at HX
        clear hu hne
        go_enter Tryd.func42, Tryd.ntmps42
        go_wp2_with fail
        rw [HF.out]
        refine (Tryd.utf8_DecodeRuneInString _ _ HT.out).mono ?_
        rw [HD.out]
        rintro e w1 ⟨rfl, hb⟩
        go_wp2_with fail
        refine (wrong_any _ _ _).mono ?_
        rintro e w' ⟨rfl, rfl⟩
        go_wp2
        go_ret3
        exact ChrPost.bad HX.out (Bad.new' _ hb (by omega) rfl)
      · obtain ⟨hd1, hd2⟩ := St.decode_good hne hu
        have HD := Lib.hid hd1
        rw [if_neg hu] at HX
        have hsc := St.rune_scalar _ hu
        clear hd1 hu hne
        have hle := St.utf8_le (c :: t)
        generalize St.rune (c :: t) = r at HX HD hd2 hsc
        generalize St.utf8 (c :: t) = n at HX HD hd2 hle
        have hq : ((r : Int) == 65533) = false ∨ (((r : Int) == 65533) = true ∧ ((n : Int) == 1) = false) := by
          by_cases e : r = 65533
          · right
            refine ⟨by simp [e], ?_⟩
            rw [beq_eq_false_iff_ne]
            rcases hd2 with h | h
            · exact absurd e h
            · omega
          · left; rw [beq_eq_false_iff_ne]; omega
        clear hd2
        rcases hq with hq | ⟨hq, hq'⟩
        all_goals
          go_enter Tryd.func42, Tryd.ntmps42
          go_wp2_with fail
          rw [HF.out]
          refine (Tryd.utf8_DecodeRuneInString _ _ HT.out).mono ?_
          rw [HD.out]
          rintro e w1 ⟨rfl, hb⟩
          go_wp2
          go_ret3
          exact ChrPost.ok HX.out ⟨rfl, hb⟩

set_option maxHeartbeats 2000000 in
set_option maxRecDepth 100000 in
/-- WriteRune: a character more. -/
theorem writeRune_any (B b : Nat) (bs : List Value) (r : Int) (hr0 : -2147483648 ≤ r) (hr1 : r ≤ 2147483647) (w : World) (h : Lib.IsBuilder 63 5 B b bs w) (hlen : bs.length + 4 ≤ 140737488355328) (hBw : B ≤ w.heap.size) :
    Calls Tryd.prog 43 #[.pointer (some ⟨b, 0, none⟩), .int .i32 r] w fun e w' => e = .returned (.tuple #[.int .i64 (Lib.runeCells r).length, .nilIface]) ∧ (Lib.IsBuilder 63 5 B b (bs ++ Lib.runeCells r) w' ∧ Below B w w') := by
  have hk4 := Lib.runeCells_le r
  go_enter Tryd.func43, Tryd.ntmps43
  go_wp2_with (go_at_call 57; refine (copyCheck_any B b bs _ h).mono ?_)
  rintro e w1 ⟨rfl, h1, hb1⟩
  obtain ⟨hB, v, hbk, hown, hne⟩ := h1
  obtain ⟨ao, cap, rfl⟩ : ∃ ao cap, v = .slice ao bs.length cap := by
    rcases hown.2 with ⟨hv, h0⟩ | ⟨g, cap, cur, hv, _⟩
    · exact ⟨none, 0, by rw [hv, h0]⟩
    · exact ⟨_, _, hv⟩
  have c0 : w1.cell? ⟨b, 0, none⟩ = some (.pointer (some ⟨b, 0, none⟩)) := by rw [Lib.cell_of_heap hbk]; rfl
  have c1 : w1.cell? ⟨b, 1, none⟩ = some (.slice ao bs.length cap) := by rw [Lib.cell_of_heap hbk]; rfl
  go_wp2_with (go_at_call 63; refine (Tryd.utf8_AppendRune_plain B _ bs.length bs r hr0 hr1 _ hown hlen (by have := hb1.size; omega)).mono ?_)
  rintro e w2 ⟨v', rfl, hown', o, hgrow⟩
  have hlt : b < w1.heap.size := by
    rcases Nat.lt_or_ge b w1.heap.size with h' | h'
    · exact h'
    · simp [Array.getElem?_eq_none h'] at hbk
  have hb2 : w2.heap[b]? = some (.cells #[.pointer (some ⟨b, 0, none⟩), .slice ao bs.length cap] 63 (0, 0)) := by
    rw [hgrow.block b (by simp; omega) (fun e => hne e.symm), Lib.alloc_old w1 _ b hlt]
    exact hbk
  have d0 : w2.cell? ⟨b, 0, none⟩ = some (.pointer (some ⟨b, 0, none⟩)) := by rw [Lib.cell_of_heap hb2]; rfl
  have d1 : w2.cell? ⟨b, 1, none⟩ = some (.slice ao bs.length cap) := by rw [Lib.cell_of_heap hb2]; rfl
  have f1 : w2.frozen? ⟨b, 1, none⟩ = false := Lib.frozen_of_heap hb2 1
  obtain ⟨g, cap', rfl⟩ : ∃ g cap', v' = .slice (some ⟨g, 0, none⟩) (bs.length + (Lib.runeCells r).length) cap' := by
    rcases hown'.2 with ⟨_, h0⟩ | ⟨g, cap', cur, hv, _⟩
    · omega
    · exact ⟨g, cap', hv⟩
  go_wp2
  go_ret2
  refine ⟨?_, .inr ?_, ?_⟩
  · have e : ((bs.length : Int) + ((Lib.runeCells r).length : Int) - (bs.length : Int)) = ((Lib.runeCells r).length : Int) := by omega
    simp [e]
  · exact Lib.BuilderAt.put (T := 63) (e := 5) hB hb2 (bs' := bs ++ Lib.runeCells r) (by simpa using hown') (by decide)
  · exact ((hb1.alloc (by have := hb1.size; omega) _).grown hgrow (by have := hb1.size; simp; omega) (fun k hk => (hown.lt k hk).1)).setCell (p := ⟨b, 1, none⟩) hB _

end Go.Proofs.YtbcoakonjgakbaaDoor
