/- The walks of layer 2 (str), sixth part: Unquote. -/
import Derived.Test.YtbcoakonjgakbaaDoorSj
namespace Go.Proofs.YtbcoakonjgakbaaDoor
open Go.RowKit

/-- What Unquote tells. -/
def UnqPost (r : St.Ans) (w : World) (e : Ending) (w' : World) : Prop :=
  (r.code = 0 ∧ e = .returned (.tuple #[.string ⟨r.text.toArray⟩, .int .i64 r.n, .nilIface]) ∧ Below w.heap.size w w') ∨
  ((r.code = 1 ∨ r.code = 2) ∧ r.text = [] ∧ r.n = 0 ∧ Bad (.string ⟨#[]⟩) r.place r.code w e w')

theorem UnqPost.bad {r : St.Ans} {w w' : World} {e : Ending} {k : Nat} {p : Int} (hr : r = ⟨[], 0, k, p⟩) (hk : k = 1 ∨ k = 2) (h : Bad (.string ⟨#[]⟩) p k w e w') : UnqPost r w e w' := by
  subst hr; exact .inr ⟨hk, rfl, rfl, h⟩
theorem UnqPost.ok {r : St.Ans} {w w' : World} {e : Ending} {t : List UInt8} {n : Nat} (hr : r = ⟨t, n, 0, 0⟩) (he : e = .returned (.tuple #[.string ⟨t.toArray⟩, .int .i64 n, .nilIface])) (h : Below w.heap.size w w') : UnqPost r w e w' := by
  subst hr; exact .inl ⟨rfl, he, h⟩

theorem builder_on {T e : TypeId} {B b : Nat} {bs : List Value} {w w' : World} (h : Lib.IsBuilder T e B b bs w) (hb : Below w.heap.size w w') : Lib.IsBuilder T e B b bs w' := by
  have hg : w.grownBy w' none := ⟨hb.os, hb.tape, hb.output, hb.size, fun k hk _ => hb.block k hk⟩
  rcases h with h | h
  all_goals
    have hlt := h.lt
    obtain ⟨hB, v, hbk, hown, hne⟩ := h
  · exact .inl ⟨hB, v, (hb.block b hlt).trans hbk, hown.kept hg (by cases v.ownBlock <;> simp), hne⟩
  · exact .inr ⟨hB, v, (hb.block b hlt).trans hbk, hown.kept hg (by cases v.ownBlock <;> simp), hne⟩

/-- The world while Unquote goes over its text: the builder with its bytes; what is older is as it was. -/
structure Writing (w : World) (out : List UInt8) (wr : World) : Prop where
  b : Lib.IsBuilder 63 5 w.heap.size w.heap.size (Lib.byteCells out) wr
  below : Below w.heap.size w wr
  size : w.heap.size + 1 ≤ wr.heap.size

theorem Writing.start (w : World) : Writing w [] (w.alloc (.cells #[.pointer none, .slice none 0 0] 63)) :=
  ⟨by have h := Lib.fresh_isBuilder 63 5 w; simpa [Lib.byteCells] using h, (Below.refl _ _).alloc (Nat.le_refl _) _, by simp⟩
theorem Writing.on {w : World} {out : List UInt8} {wr w' : World} (h : Writing w out wr) (hb : Below wr.heap.size wr w') : Writing w out w' :=
  ⟨builder_on h.b hb, h.below.trans (hb.mono h.below.size), by have := hb.size; have := h.size; omega⟩
theorem Writing.next {w : World} {out out' : List UInt8} {wr w' : World} (h : Writing w out wr) (hb : Below w.heap.size wr w') (hl : Lib.IsBuilder 63 5 w.heap.size w.heap.size (Lib.byteCells out') w') : Writing w out' w' :=
  ⟨hl, h.below.trans hb, by have := hb.size; have := h.size; omega⟩

/-- How far Unquote has come. -/
def Goes (w : World) (l : List UInt8) (n : Nat) (R : St.Res) (v : Value) (wr : World) (k : Nat) : Prop :=
  ∃ out f, n < k ∧ k ≤ l.length ∧ v = .int .i64 k ∧ out.length ≤ 4 * k ∧ l.length - k < f ∧ St.run f (l.drop k) out k = R ∧ Writing w out wr

set_option linter.unusedSimpArgs false in
set_option maxRecDepth 100000 in
set_option maxHeartbeats 1000000 in
theorem unquote_any (s : ByteArray) (a : Int) (w : World) (hs : s.size ≤ 1000000) (ha0 : -9223372036854775808 ≤ a) (ha1 : a ≤ 9223372036854775807) (hT : Tabs w) :
    Calls Tryd.prog 20 #[.string s, .int .i64 a] w (UnqPost (St.unq s.data.toList a) w) := by
  have HT := Lib.hid hT
  have hsl : s.data.toList.length = s.size := (Lib.size_eq s).symm
  have HSL := Lib.hid hsl
  clear hT hsl
  by_cases h0 : a < 0 ∨ s.size ≤ a
  · have HX := Lib.hid (show St.unq s.data.toList a = ⟨[], 0, 1, a⟩ by
      unfold St.unq
      rw [if_neg]
      rintro ⟨k1, k2⟩
      rw [List.getElem?_eq_none (by rw [HSL.out]; omega)] at k2
      cases k2)
    rcases h0 with h0 | h0
    · go_enter Tryd.func20, Tryd.ntmps20
      go_wp2_with fail
      refine (wrong_any _ _ _).mono ?_
      rintro e w' ⟨rfl, rfl⟩
      go_wp2
      go_ret3
      exact UnqPost.bad HX.out (.inl rfl) (Bad.new' _ (Below.refl _ _) rfl rfl)
    · have h0' : 0 ≤ a := by omega
      go_enter Tryd.func20, Tryd.ntmps20
      go_wp2_with fail
      refine (wrong_any _ _ _).mono ?_
      rintro e w' ⟨rfl, rfl⟩
      go_wp2
      go_ret3
      exact UnqPost.bad HX.out (.inl rfl) (Bad.new' _ (Below.refl _ _) rfl rfl)
  · obtain ⟨n, rfl⟩ := Int.eq_ofNat_of_zero_le (show 0 ≤ a by omega)
    have hn : n < s.size := by omega
    clear h0 ha0 ha1
    have hix : ∀ h, s[n]'h = s.data.toList[n]'(len_at hn) := fun _ => rfl
    have HX := Lib.hid (show St.unq s.data.toList (n : Int) = if s.data.toList[n]'(len_at hn) = 34 then (St.run (s.data.toList.length + 1) (s.data.toList.drop (n + 1)) [] (n + 1)).ans n else ⟨[], 0, 1, n⟩ by
      unfold St.unq
      rw [Int.toNat_natCast, List.getElem?_eq_getElem (len_at hn)]
      simp only [Int.natCast_nonneg, Option.some.injEq, true_and])
    generalize s.data.toList[n]'(len_at hn) = c at hix HX
    by_cases hc : c = 34
    · have b1 : ((c.toNat : Int) == 34) = true := byte_eqb 34 hc
      have b2 : ((c.toNat : Int) != 34) = false := by rw [bne, b1]; rfl
      rw [if_pos hc] at HX
      clear hc
      generalize hR : St.run (s.data.toList.length + 1) (s.data.toList.drop (n + 1)) [] (n + 1) = R at HX
      have HR := Lib.hid hR
      clear hR
      have dn0 : decide ((n : Int) < 0) = false := by simp
      have dsn : decide (s.size ≤ n) = false := by simp; omega
      go_enter Tryd.func20, Tryd.ntmps20
      go_wp2_with fail
      go_loopw [8] (fun v wr => ∃ k, Goes w s.data.toList n R v wr k) (fun v _ => s.size - (intOf v).toNat)
      case atStart => exact ⟨n + 1, [], _, by omega, by rw [HSL.out]; omega, by go_num, by simp, by omega, HR.out, Writing.start w⟩
      case round =>
        obtain ⟨k, out, f, hnk, hk, rfl, hol, hf, hrun, hW⟩ := hrel
        rw [HSL.out] at hk hf
        have HRUN := Lib.hid hrun
        clear hrun
        obtain ⟨f, rfl⟩ : ∃ f', f = f' + 1 := ⟨f - 1, by omega⟩
        by_cases hlt : k < s.size
        · have hd := drop_at s k hlt
          have HCH := Lib.hid (fun w hT => character_any s k w (by omega) hlt hT)
          have hix2 : ∀ h, s[k]'h = s.data.toList[k]'(len_at hlt) := fun _ => rfl
          have hdl : (s.data.toList.drop k).length = s.size - k := by rw [List.length_drop, HSL.out]
          have hdd : ∀ n, (s.data.toList.drop k).drop n = s.data.toList.drop (k + n) := fun n => by rw [List.drop_drop]
          rw [hd] at HRUN HCH hdl hdd
          clear hd
          generalize s.data.toList[k]'(len_at hlt) = d at hix2 HRUN HCH hdl hdd
          generalize s.data.toList.drop (k + 1) = t at HRUN HCH hdl hdd
          by_cases hd34 : d = 34
          · have d1 : ((d.toNat : Int) == 34) = true := byte_eqb 34 hd34
            have d2 : ((d.toNat : Int) != 34) = false := by rw [bne, d1]; rfl
            have HRES := Lib.hid (show R = .ok out (k + 1) by rw [← HRUN.out, hd34, St.run_stop])
            clear hd34 HCH HRUN
            have dk : ((k : Int) == (s.size : Int)) = false := by rw [beq_eq_false_iff_ne]; omega
            go_wp2_with fail
            refine (Tryd.Builder_String_any _ _ _ _ hW.b hW.below.size).mono ?_
            rintro e w3 ⟨rfl, hb3⟩
            go_wp2
            go_ret3
            refine UnqPost.ok (t := out) (n := k + 1 - n) (by rw [HX.out, HRES.out]; rfl) ?_ (hW.below.trans hb3)
            show Ending.returned (.tuple #[.string ⟨out.toArray⟩, .int .i64 ((k : Int) + 1 - (n : Int)), .nilIface]) = _
            rw [show (k : Int) + 1 - (n : Int) = ((k + 1 - n : Nat) : Int) by omega]
          · have d1 : ((d.toNat : Int) == 34) = false := byte_neb 34 hd34
            have d2 : ((d.toNat : Int) != 34) = true := by rw [bne, d1]; rfl
            have hTr : Tabs wr := HT.out.on hW.below
            go_wp2_with fail
            refine (HCH.out _ hTr).mono ?_
            intro e w1 h
            cases hch : St.chr (d :: t) with
            | bad kk o =>
              rw [hch] at h
              obtain ⟨b, rfl, hb1, hb2, hb3⟩ := h
              have HRES := Lib.hid (show R = .bad kk (k + o) by rw [← HRUN.out, St.run_bad f out k hd34 hch])
              have hcode := (St.chr_bad hch).1
              clear hch hd34 HRUN HCH hTr
              go_wp2
              go_ret3
              refine UnqPost.bad (k := kk) (p := ((k + o : Nat) : Int)) (by rw [HX.out, HRES.out]; rfl) hcode ⟨b, rfl, ?_, hb2, hW.below.trans (hb3.mono hW.below.size)⟩
              have := hW.below.size
              omega
            | ok r m =>
              rw [hch] at h
              obtain ⟨rfl, hb1⟩ := h
              obtain ⟨m1, m2, m3, _⟩ := St.chr_ok hch
              have HRES := Lib.hid (show St.run f (s.data.toList.drop (k + m)) (out ++ Lib.encodeRune (r : Int)) (k + m) = R by rw [← HRUN.out, St.run_more f out k hd34 hch, hdd])
              rw [hdl] at m2
              clear hch hd34 HRUN HCH hTr hdd hdl
              have hr1 : r ≤ 1114111 := by unfold St.scalar at m3; omega
              have hW1 := hW.on hb1
              go_wp2_with fail
              refine (writeRune_any _ _ _ (r : Int) (by omega) (by omega) _ hW1.b (by rw [Lib.byteCells_length]; omega) hW1.below.size).mono ?_
              rw [← Lib.byteCells_encodeRune, ← Lib.byteCells_append]
              rintro e w2 ⟨rfl, hb2, hb3⟩
              have hW2 := hW1.next hb3 hb2
              have hle := (Lib.runeCells_le (r : Int)).2
              rw [Lib.runeCells_length] at hle
              go_wp2
              go_roundw
              case rel => exact ⟨k + m, out ++ Lib.encodeRune (r : Int), f, by omega, by rw [HSL.out]; omega, by go_num, by rw [List.length_append]; omega, by rw [HSL.out]; omega, HRES.out, hW2⟩
              case measure => simp [intOf]; omega
        · obtain rfl : k = s.size := by omega
          have HRES := Lib.hid (show R = .bad 1 s.size by rw [← HRUN.out, List.drop_eq_nil_of_le (by rw [HSL.out]; omega)]; rfl)
          clear HRUN
          go_wp2_with fail
          refine (wrong_any _ _ _).mono ?_
          rintro e w' ⟨rfl, rfl⟩
          go_wp2
          go_ret3
          exact UnqPost.bad (k := 1) (p := (s.size : Int)) (by rw [HX.out, HRES.out]; rfl) (.inl rfl) (Bad.new' _ hW.below rfl rfl)
    · have b1 : ((c.toNat : Int) == 34) = false := byte_neb 34 hc
      have b2 : ((c.toNat : Int) != 34) = true := by rw [bne, b1]; rfl
      rw [if_neg hc] at HX
      clear hc
      go_enter Tryd.func20, Tryd.ntmps20
      go_wp2_with fail
      refine (wrong_any _ _ _).mono ?_
      rintro e w' ⟨rfl, rfl⟩
      go_wp2
      go_ret3
      exact UnqPost.bad HX.out (.inl rfl) (Bad.new' _ (Below.refl _ _) rfl rfl)

end Go.Proofs.YtbcoakonjgakbaaDoor
