/- The walks of layer 2, sixth part of the document's answers: Unquote. -/
import Derived.Test.YtbcoakonjgakbaaDoorUd
import Derived.Test.YtbcoakonjgakbaaDoorUe
namespace Go.Proofs.YtbcoakonjgakbaaDoor
open Go.RowKit

theorem results_tmp4 {fn : Func} {t u v x : Tmp} (h : fn.results = #[.tmp t, .tmp u, .tmp v, .tmp x]) (tmps : Array Value) (P : Program) (w : World) :
    (results fn tmps).run P w = .ok (.tuple #[tmps.getD t undef, tmps.getD u undef, tmps.getD v undef, tmps.getD x undef]) w := by
  simp [results, h]

/-- What the document's Unquote tells. -/
def RUnq (r : St.Ans) (w : World) (e : Ending) (w' : World) : Prop :=
  e = .returned (.tuple #[.string ⟨r.text.toArray⟩, .int .i64 r.n, .int .i64 r.code, .int .i64 r.place]) ∧ Below w.heap.size w w'

theorem RUnq.bad {r : St.Ans} {w w' : World} {k : Nat} {p p' : Int} (hr : r = ⟨[], 0, k, p⟩) (hp : p = p') (h : Below w.heap.size w w') :
    RUnq r w (.returned (.tuple #[.string ⟨#[]⟩, .int .i64 0, .int .i64 k, .int .i64 p'])) w' := by
  subst hr hp; exact ⟨rfl, h⟩
theorem RUnq.ok {r : St.Ans} {w w' : World} {t : List UInt8} {n : Nat} {m : Int} (hr : r = ⟨t, n, 0, 0⟩) (hm : (n : Int) = m) (h : Below w.heap.size w w') :
    RUnq r w (.returned (.tuple #[.string ⟨t.toArray⟩, .int .i64 m, .int .i64 0, .int .i64 0])) w' := by
  subst hr hm; exact ⟨rfl, h⟩

/-- How far the document's Unquote has come. -/
def RGoes (w : World) (l : List UInt8) (n : Nat) (R : St.Res) (o v : Value) (wr : World) (k : Nat) : Prop :=
  ∃ out f, n < k ∧ k ≤ l.length ∧ v = .int .i64 k ∧ o = .string ⟨out.toArray⟩ ∧ out.length ≤ 4 * k ∧ l.length - k < f ∧ St.run f (l.drop k) out k = R ∧ Below w.heap.size w wr

/-- How far it has come in its list of what may stand behind a backslash. -/
def Finding (out : List UInt8) (d : UInt8) (W : World) (o f v : Value) (w2 : World) (j : Nat) : Prop :=
  j ≤ 8 ∧ v = .int .i64 j ∧ o = .string ⟨(out ++ St.hit d j).toArray⟩ ∧ f = .bool (!(St.hit d j).isEmpty) ∧ Below W.heap.size W w2

theorem toCell (W w2 : World) (hb : Below (W.alloc (.cells #[.int .u8 34, .int .u8 92, .int .u8 47, .int .u8 8, .int .u8 12, .int .u8 10, .int .u8 13, .int .u8 9] 5)).heap.size (W.alloc (.cells #[.int .u8 34, .int .u8 92, .int .u8 47, .int .u8 8, .int .u8 12, .int .u8 10, .int .u8 13, .int .u8 9] 5)) w2) (j : Nat) (hj : j < 8) :
    w2.cell? ⟨W.heap.size, j, none⟩ = some (.int .u8 ((St.toL[j]'hj).toNat : Int)) := by
  rw [hb.cell (p := ⟨W.heap.size, j, none⟩) (by simp)]
  match j, hj with
  | 0, _ => simp
  | 1, _ => simp
  | 2, _ => simp
  | 3, _ => simp
  | 4, _ => simp
  | 5, _ => simp
  | 6, _ => simp
  | 7, _ => simp

theorem frAt : ∀ (j : Nat) (h : j < 8) (h' : j < (⟨#[34, 92, 47, 98, 102, 110, 114, 116]⟩ : ByteArray).size), (⟨#[34, 92, 47, 98, 102, 110, 114, 116]⟩ : ByteArray)[j]'h' = St.frL[j]'h := by decide

set_option linter.unusedSimpArgs false in
set_option maxRecDepth 100000 in
set_option maxHeartbeats 4000000 in
theorem refUnquote_any (s : ByteArray) (a : Int) (w : World) (hs : s.size ≤ 1000000) (ha0 : -9223372036854775808 ≤ a) (ha1 : a ≤ 9223372036854775807) :
    Calls Tryd.prog 21 #[.string s, .int .i64 a] w (RUnq (St.unq s.data.toList a) w) := by
  have hsl : s.data.toList.length = s.size := (Lib.size_eq s).symm
  have HSL := Lib.hid hsl
  clear hsl
  by_cases h0 : a < 0 ∨ s.size ≤ a
  · have HX := Lib.hid (show St.unq s.data.toList a = ⟨[], 0, 1, a⟩ by
      unfold St.unq
      rw [if_neg]
      rintro ⟨k1, k2⟩
      rw [List.getElem?_eq_none (by rw [HSL.out]; omega)] at k2
      cases k2)
    rcases h0 with h0 | h0
    · go_enter Tryd.func21, Tryd.ntmps21
      go_wp2
      refine bodyPost_ret (results_tmp4 rfl _ _ _) rfl ?_
      exact RUnq.bad HX.out rfl (Below.refl _ _)
    · have h0' : 0 ≤ a := by omega
      go_enter Tryd.func21, Tryd.ntmps21
      go_wp2
      refine bodyPost_ret (results_tmp4 rfl _ _ _) rfl ?_
      exact RUnq.bad HX.out rfl (Below.refl _ _)
  · obtain ⟨n, rfl⟩ := Int.eq_ofNat_of_zero_le (show 0 ≤ a by omega)
    have hn : n < s.size := by omega
    clear h0 ha0 ha1
    have hix : ∀ h, s[n]'h = s.data.toList[n]'(len_at hn) := fun _ => rfl
    have HX := Lib.hid (show St.unq s.data.toList (n : Int) = if s.data.toList[n]'(len_at hn) = 34 then (St.run (s.data.toList.length + 1) (s.data.toList.drop (n + 1)) [] (n + 1)).ans n else ⟨[], 0, 1, n⟩ by
      unfold St.unq
      rw [Int.toNat_natCast, List.getElem?_eq_getElem (len_at hn)]
      simp only [Int.natCast_nonneg, Option.some.injEq, true_and])
    generalize s.data.toList[n]'(len_at hn) = c at hix HX
    have dn0 : decide ((n : Int) < 0) = false := by simp
    have dsn : decide (s.size ≤ n) = false := by simp; omega
    by_cases hc : c = 34
    · have b1 : ((c.toNat : Int) == 34) = true := byte_eqb 34 hc
      have b2 : ((c.toNat : Int) != 34) = false := by rw [bne, b1]; rfl
      rw [if_pos hc] at HX
      clear hc
      generalize hR : St.run (s.data.toList.length + 1) (s.data.toList.drop (n + 1)) [] (n + 1) = R at HX
      have HR := Lib.hid hR
      clear hR
      go_enter Tryd.func21, Tryd.ntmps21
      go_wp2_with fail
      go_loopw [8, 9] (fun o v wr => ∃ k, RGoes w s.data.toList n R o v wr k) (fun _ v _ => s.size - (intOf v).toNat)
      case atStart => exact ⟨n + 1, [], _, by omega, by rw [HSL.out]; omega, by go_num, rfl, by simp, by omega, HR.out, Below.refl _ _⟩
      case round =>
        obtain ⟨k, out, f, hnk, hk, rfl, rfl, hol, hf, hrun, hW⟩ := hrel
        rw [HSL.out] at hk hf
        have HRUN := Lib.hid hrun
        clear hrun
        obtain ⟨f, rfl⟩ : ∃ f', f = f' + 1 := ⟨f - 1, by omega⟩
        by_cases hlt : k < s.size
        · have hd := drop_at s k hlt
          have HU8 := Lib.hid (fun w => utf8_any s k w (by omega) hlt)
          have HEX := Lib.hid (fun n => Lib.extract_eq s k (k + n))
          have hix2 : ∀ h, s[k]'h = s.data.toList[k]'(len_at hlt) := fun _ => rfl
          have hdl : (s.data.toList.drop k).length = s.size - k := by rw [List.length_drop, HSL.out]
          have hdd : ∀ n, (s.data.toList.drop k).drop n = s.data.toList.drop (k + n) := fun n => by rw [List.drop_drop]
          rw [hd] at HRUN HU8 HEX hdl hdd
          clear hd
          generalize s.data.toList[k]'(len_at hlt) = d at hix2 HRUN HU8 HEX hdl hdd
          by_cases hd34 : d = 34
          · have d1 : ((d.toNat : Int) == 34) = true := byte_eqb 34 hd34
            have HRES := Lib.hid (show R = .ok out (k + 1) by rw [← HRUN.out, hd34, St.run_stop])
            clear hd34 HRUN HU8 HEX hdd hdl
            go_wp2_with fail
            refine bodyPost_ret (results_tmp4 rfl _ _ _) rfl ?_
            refine RUnq.ok (t := out) (n := k + 1 - n) (by rw [HX.out, HRES.out]; rfl) ?_ hW
            omega
          · have d1 : ((d.toNat : Int) == 34) = false := byte_neb 34 hd34
            by_cases h32 : d.toNat < 32
            · have HRES := Lib.hid (show R = .bad 1 (k + 0) by rw [← HRUN.out, St.run_bad f out k hd34 (by rw [St.chr_cons]; rw [if_pos h32])])
              clear hd34 HRUN HU8 HEX hdd hdl
              go_wp2_with fail
              refine bodyPost_ret (results_tmp4 rfl _ _ _) rfl ?_
              exact RUnq.bad (k := 1) (p := ((k + 0 : Nat) : Int)) (by rw [HX.out, HRES.out]; rfl) (by omega) hW
            · by_cases h92 : d = 92
              · have d2 : ((d.toNat : Int) == 92) = true := byte_eqb 92 h92
                have d3 : ((d.toNat : Int) != 92) = false := by rw [bne, d2]; rfl
                clear HU8 HEX
                have h256 := d.toNat_lt
                by_cases h1 : k + 1 = s.size
                · have h1' : ((k : Int) + 1 == (s.size : Int)) = true := by simp; omega
                  have HRES := Lib.hid (show R = .bad 1 (k + 1) by
                    rw [← HRUN.out, St.run_bad f out k hd34 (k := 1) (o := 1) (by rw [List.drop_eq_nil_of_le (by rw [HSL.out]; omega), h92]; rfl)])
                  clear hd34 HRUN hdd hdl h92
                  go_wp2_with fail
                  refine bodyPost_ret (results_tmp4 rfl _ _ _) rfl ?_
                  exact RUnq.bad (k := 1) (p := ((k + 1 : Nat) : Int)) (by rw [HX.out, HRES.out]; rfl) (by omega) hW
                · have h1' : ((k : Int) + 1 == (s.size : Int)) = false := by rw [beq_eq_false_iff_ne]; omega
                  have hlt1 : k + 1 < s.size := by omega
                  have hd1' := drop_at s (k + 1) hlt1
                  have hix3 : ∀ h, s[k + 1]'h = s.data.toList[k + 1]'(len_at hlt1) := fun _ => rfl
                  rw [hd1'] at HRUN hdl hdd
                  clear hd1' h1
                  generalize s.data.toList[k + 1]'(len_at hlt1) = c1 at hix3 HRUN hdl hdd
                  rw [show k + 1 + 1 = k + 2 from rfl] at HRUN hdl hdd
                  have h256' := c1.toNat_lt
                  by_cases h117 : c1 = 117
                  · have d4 : ((c1.toNat : Int) == 117) = true := byte_eqb 117 h117
                    have HHX := Lib.hid (fun w => hex_any s (k + 2) w (by omega) (by omega))
                    have HLW := Lib.hid (fun w h => low_any s (k + 6) w (by omega) h)
                    have hu6 : s.data.toList.drop (k + 6) = (s.data.toList.drop (k + 2)).drop 4 := by rw [List.drop_drop]
                    rw [hu6] at HLW
                    have hul : (s.data.toList.drop (k + 2)).length = s.size - (k + 2) := by rw [List.length_drop, HSL.out]
                    clear hu6
                    subst h92 h117
                    have HCH := Lib.hid (St.chr_num (s.data.toList.drop (k + 2)))
                    generalize s.data.toList.drop (k + 2) = u at HHX HLW HCH HRUN hdl hdd hul
                    have h4 := St.four_le u
                    have hv16 := St.four_lt u
                    have HN : Hid (∀ v n, St.four u = (v, n) → St.num u = if n < 4 then .bad 1 (2 + n)
                        else if St.isHigh v = false ∧ St.isLow v = false then .ok v 6
                        else if St.isLow v = true ∨ (St.half (u.drop 4)).2 = false then .bad 2 0
                        else .ok (65536 + (v - 55296) * 1024 + ((St.half (u.drop 4)).1 - 56320)) 12) := Lib.hid (fun v n h => by unfold St.num; rw [h])
                    go_wp2_with fail
                    refine (HHX.out _).mono ?_
                    rintro e w' ⟨rfl, rfl⟩
                    cases hf4 : St.four u with
                    | mk v nn =>
                    have HN' := Lib.hid (HN.out v nn hf4)
                    rw [hf4] at h4 hv16
                    clear HN hf4
                    simp only at h4 hv16
                    by_cases hn4 : nn < 4
                    · rw [if_pos hn4] at HN'
                      have HRES := Lib.hid (show R = .bad 1 (k + (2 + nn)) by rw [← HRUN.out, St.run_bad f out k hd34 (HCH.out.trans HN'.out)])
                      have e1 : hexP (k + 2) (v, nn) = ((k + 2 + nn : Nat) : Int) := by unfold hexP; rw [if_pos hn4]
                      have e2 : hexV (v, nn) = 0 := by unfold hexV; rw [if_pos hn4]
                      rw [e1, e2]
                      clear e1 e2 hd34 HRUN hdd hdl
                      go_wp2_with fail
                      refine bodyPost_ret (results_tmp4 rfl _ _ _) rfl ?_
                      exact RUnq.bad (k := 1) (p := ((k + (2 + nn) : Nat) : Int)) (by rw [HX.out, HRES.out]; rfl) (by omega) hW
                    · rw [if_neg hn4] at HN'
                      obtain rfl : nn = 4 := by omega
                      have e1 : hexP (k + 2) (v, 4) = -1 := rfl
                      have e2 : hexV (v, 4) = v := rfl
                      rw [e1, e2]
                      clear e1 e2 hn4
                      have hhalf := @St.half_true (u.drop 4)
                      go_wp2_with fail
                      refine (HLW.out _ (by omega)).mono ?_
                      rintro e w' ⟨rfl, rfl⟩
                      generalize St.half (u.drop 4) = hf at HN' hhalf ⊢
                      obtain ⟨lv, lb⟩ := hf
                      simp only at HN' hhalf
                      have hways : (v < 55296) ∨ (57344 ≤ v) ∨ (56320 ≤ v ∧ v < 57344) ∨ (55296 ≤ v ∧ v < 56320) := by omega
                      have hrs := Lib.hid (hdd 6)
                      have hrs2 := Lib.hid (hdd 12)
                      rcases hways with t | t | ⟨t1, t2⟩ | ⟨t1, t2⟩
                      · rw [if_pos ⟨by unfold St.isHigh; rw [decide_eq_false (by omega)]; rfl, by unfold St.isLow; rw [decide_eq_false (by omega)]; rfl⟩] at HN'
                        have HRES := Lib.hid (show St.run f (s.data.toList.drop (k + 6)) (out ++ Lib.encodeRune (v : Int)) (k + 6) = R by rw [← HRUN.out, St.run_more f out k hd34 (HCH.out.trans HN'.out), hrs.out])
                        have hel := St.encode_len v
                        have hu4 := h4.2
                        have dv1 : decide ((55296 : Int) ≤ (v : Int)) = false := by simp; omega
                        have hsc : St.scalar v := .inl t
                        clear hd34 HRUN hdd hdl hrs hrs2 hhalf HCH HN'
                        generalize lowV (lv, lb) = nx
                        go_wp2_with fail
                        refine (char_any v _ hsc).mono ?_
                        rintro e w2 ⟨rfl, hb2⟩
                        generalize Lib.encodeRune (v : Int) = q at HRES hel ⊢
                        have ha1 := fun W => cat_lists W out q (by omega)
                        go_wp2_with fail
                        go_roundw
                        case rel => exact ⟨k + 6, out ++ q, f, by omega, by rw [HSL.out]; omega, by go_num, rfl, by rw [List.length_append]; omega, by rw [HSL.out]; omega, HRES.out, hW.trans (hb2.mono hW.size)⟩
                        case measure => simp [intOf]; omega
                      · rw [if_pos ⟨by unfold St.isHigh; rw [decide_eq_false (show ¬ v ≤ 56319 by omega), Bool.and_false], by unfold St.isLow; rw [decide_eq_false (show ¬ v ≤ 57343 by omega), Bool.and_false]⟩] at HN'
                        have HRES := Lib.hid (show St.run f (s.data.toList.drop (k + 6)) (out ++ Lib.encodeRune (v : Int)) (k + 6) = R by rw [← HRUN.out, St.run_more f out k hd34 (HCH.out.trans HN'.out), hrs.out])
                        have hel := St.encode_len v
                        have hu4 := h4.2
                        have dv1 : decide ((55296 : Int) ≤ (v : Int)) = true := by simp; omega
                        have dv2 : decide ((v : Int) < 56320) = false := by simp; omega
                        have dv3 : decide ((v : Int) < 57344) = false := by simp; omega
                        have hsc : St.scalar v := .inr ⟨t, by omega⟩
                        clear hd34 HRUN hdd hdl hrs hrs2 hhalf HCH HN'
                        generalize lowV (lv, lb) = nx
                        go_wp2_with fail
                        refine (char_any v _ hsc).mono ?_
                        rintro e w2 ⟨rfl, hb2⟩
                        generalize Lib.encodeRune (v : Int) = q at HRES hel ⊢
                        have ha1 := fun W => cat_lists W out q (by omega)
                        go_wp2_with fail
                        go_roundw
                        case rel => exact ⟨k + 6, out ++ q, f, by omega, by rw [HSL.out]; omega, by go_num, rfl, by rw [List.length_append]; omega, by rw [HSL.out]; omega, HRES.out, hW.trans (hb2.mono hW.size)⟩
                        case measure => simp [intOf]; omega
                      · rw [if_neg (fun h => by have := h.2; unfold St.isLow at this; simp at this; omega), if_pos (.inl (by unfold St.isLow; simp; omega))] at HN'
                        have HRES := Lib.hid (show R = .bad 2 (k + 0) by rw [← HRUN.out, St.run_bad f out k hd34 (HCH.out.trans HN'.out)])
                        have dv1 : decide ((55296 : Int) ≤ (v : Int)) = true := by simp; omega
                        have dv2 : decide ((v : Int) < 56320) = false := by simp; omega
                        have dv3 : decide ((v : Int) < 57344) = true := by simp; omega
                        clear hd34 HRUN hdd hdl hrs hrs2 hhalf HCH HN'
                        generalize lowV (lv, lb) = nx
                        go_wp2_with fail
                        refine bodyPost_ret (results_tmp4 rfl _ _ _) rfl ?_
                        exact RUnq.bad (k := 2) (p := ((k + 0 : Nat) : Int)) (by rw [HX.out, HRES.out]; rfl) (by omega) hW
                      · have hhi : St.isHigh v = true := by unfold St.isHigh; simp; omega
                        have hlo : St.isLow v = false := by unfold St.isLow; simp; omega
                        rw [hhi, hlo, if_neg (fun h => by cases h.1)] at HN'
                        have dv1 : decide ((55296 : Int) ≤ (v : Int)) = true := by simp; omega
                        have dv2 : decide ((v : Int) < 56320) = true := by simp; omega
                        have dv3 : decide ((v : Int) < 57344) = true := by simp; omega
                        cases lb
                        · rw [if_pos (.inr rfl)] at HN'
                          have HRES := Lib.hid (show R = .bad 2 (k + 0) by rw [← HRUN.out, St.run_bad f out k hd34 (HCH.out.trans HN'.out)])
                          clear hd34 HRUN hdd hdl hrs hrs2 hhalf HCH HN' hhi hlo
                          rw [show lowV (lv, false) = -1 from rfl]
                          go_wp2_with fail
                          refine bodyPost_ret (results_tmp4 rfl _ _ _) rfl ?_
                          exact RUnq.bad (k := 2) (p := ((k + 0 : Nat) : Int)) (by rw [HX.out, HRES.out]; rfl) (by omega) hW
                        · rw [if_neg (by simp)] at HN'
                          obtain ⟨_, hu6, hlv⟩ := hhalf rfl
                          simp only [St.isLow, Bool.and_eq_true, decide_eq_true_eq] at hlv
                          rw [List.length_drop] at hu6
                          have HRES := Lib.hid (show St.run f (s.data.toList.drop (k + 12)) (out ++ Lib.encodeRune ((65536 + (v - 55296) * 1024 + (lv - 56320) : Nat) : Int)) (k + 12) = R by rw [← HRUN.out, St.run_more f out k hd34 (HCH.out.trans HN'.out), hrs2.out])
                          have hel := St.encode_len (65536 + (v - 55296) * 1024 + (lv - 56320))
                          have hsc : St.scalar (65536 + (v - 55296) * 1024 + (lv - 56320)) := by unfold St.scalar; omega
                          have hz : (65536 : Int) + 1024 * ((v : Int) - 55296) + (lv : Int) - 56320 = ((65536 + (v - 55296) * 1024 + (lv - 56320) : Nat) : Int) := by omega
                          have HZ := Lib.hid hz
                          have hlv0 : (0 : Int) ≤ (lv : Int) := by omega
                          have hlv1 : (lv : Int) ≤ 57343 := by omega
                          have hv0 : (55296 : Int) ≤ (v : Int) := by omega
                          have hv1 : (v : Int) ≤ 56319 := by omega
                          clear hd34 HRUN hdd hdl hrs hrs2 hhalf HCH HN' hhi hlo hz
                          rw [show lowV (lv, true) = (lv : Int) from rfl]
                          go_wp2_with fail
                          rw [HZ.out]
                          refine (char_any _ _ hsc).mono ?_
                          rintro e w2 ⟨rfl, hb2⟩
                          generalize Lib.encodeRune ((65536 + (v - 55296) * 1024 + (lv - 56320) : Nat) : Int) = q at HRES hel ⊢
                          have ha1 := fun W => cat_lists W out q (by omega)
                          go_wp2_with fail
                          go_roundw
                          case rel => exact ⟨k + 12, out ++ q, f, by omega, by rw [HSL.out]; omega, by go_num, rfl, by rw [List.length_append]; omega, by rw [HSL.out]; omega, HRES.out, hW.trans (hb2.mono hW.size)⟩
                          case measure => simp [intOf]; omega
                  · have d4 : ((c1.toNat : Int) == 117) = false := byte_neb 117 h117
                    subst h92
                    have HCH := Lib.hid (St.chr_esc (u := s.data.toList.drop (k + 2)) h117)
                    have HALL := Lib.hid (St.hit_all c1)
                    clear h117
                    obtain ⟨w1, hw1⟩ : ∃ w1, w1 = wr := ⟨_, rfl⟩
                    subst hw1
                    go_wp2_with fail
                    go_loopw [8, 17, 18] (fun o fo v w2 => ∃ j, Finding out c1 (w1.alloc (.cells #[.int .u8 34, .int .u8 92, .int .u8 47, .int .u8 8, .int .u8 12, .int .u8 10, .int .u8 13, .int .u8 9] 5)) o fo v w2 j) (fun _ _ v _ => 8 - (intOf v).toNat)
                    case atStart => exact ⟨0, by omega, rfl, by rw [St.hit_zero, List.append_nil], rfl, Below.refl _ _⟩
                    case round =>
                      obtain ⟨j, hj, rfl, rfl, rfl, hb3⟩ := hrel
                      have hhl := St.hit_len c1 j
                      by_cases hj8 : j < 8
                      · have HNX := Lib.hid (St.hit_next c1 j hj8)
                        have hfr : ∀ h, (⟨#[34, 92, 47, 98, 102, 110, 114, 116]⟩ : ByteArray)[j]'h = St.frL[j]'hj8 := fun h => frAt j hj8 h
                        have HTO := Lib.hid (fun nq => toCell w1 (World.drewN wr nq) (below_drewN hb3 nq) j hj8)
                        generalize St.frL[j]'hj8 = x at HNX hfr
                        generalize St.toL[j]'hj8 = y at HNX HTO
                        generalize St.hit c1 j = hl at HNX hhl ⊢
                        have HB3 := Lib.hid (fun nq => below_drewN hb3 nq)
                        have i1 : (j : Int) < 8 := by omega
                        have i2 : (k : Int) + 1 < (s.size : Int) := by omega
                        go_wp2_with fail
                        go_quiet (fail)
                        have hto := HTO.out nq
                        have hb4 := HB3.out nq
                        clear hb3 HTO HB3
                        generalize wr.drewN nq = w4 at hto hb4 ⊢
                        by_cases hx : x = c1
                        · have dx : ((x.toNat : Int) == (c1.toNat : Int)) = true := byte_eqb c1 hx
                          rw [if_pos hx] at HNX
                          clear hx
                          have hcw := one_str w4 y
                          have ha1 := fun W => cat_lists W (out ++ hl) [y] (by simp; omega)
                          go_wp2_with fail
                          go_roundw
                          case rel => exact ⟨j + 1, by omega, by go_num, by rw [HNX.out], by rw [HNX.out]; simp, hb4.alloc hb4.size _⟩
                          case measure => simp [intOf]; omega
                        · have dx : ((x.toNat : Int) == (c1.toNat : Int)) = false := byte_neb c1 hx
                          rw [if_neg hx, List.append_nil] at HNX
                          clear hx
                          go_wp2_with fail
                          go_roundw
                          case rel => exact ⟨j + 1, by omega, by go_num, by rw [HNX.out], by rw [HNX.out], hb4⟩
                          case measure => simp [intOf]; omega
                      · obtain rfl : j = 8 := by omega
                        rw [HALL.out]
                        have hb5 := hW.trans ((((Below.refl w1.heap.size w1).alloc (Nat.le_refl _) _).trans (hb3.mono (by simp))).mono hW.size)
                        have hrs := Lib.hid (hdd 2)
                        cases hsi : St.simple c1 with
                        | none =>
                          rw [hsi] at HCH
                          have HRES := Lib.hid (show R = .bad 1 (k + 1) by rw [← HRUN.out, St.run_bad f out k hd34 HCH.out])
                          clear hd34 HRUN hdd hdl hsi HALL hrs
                          go_wp2_with fail
                          refine bodyPost_ret (results_tmp4 rfl _ _ _) rfl ?_
                          exact RUnq.bad (k := 1) (p := ((k + 1 : Nat) : Int)) (by rw [HX.out, HRES.out]; rfl) (by omega) hb5
                        | some r =>
                          rw [hsi] at HCH
                          have HRES := Lib.hid (show St.run f (s.data.toList.drop (k + 2)) (out ++ Lib.encodeRune (r : Int)) (k + 2) = R by rw [← HRUN.out, St.run_more f out k hd34 HCH.out, hrs.out])
                          have hel := St.encode_len r
                          have hne : (Lib.encodeRune (r : Int)).isEmpty = false := by
                            rw [List.isEmpty_eq_false_iff]
                            intro e
                            have := (Lib.encodeRuneZ_length (r : Int)).1
                            rw [Lib.encodeRune, List.map_eq_nil_iff] at e
                            rw [e] at this
                            simp at this
                          simp only [hne]
                          generalize Lib.encodeRune (r : Int) = q at HRES hel ⊢
                          clear hd34 HRUN hdd hdl hsi HALL hrs hne
                          go_wp2_with fail
                          go_roundw
                          case rel => exact ⟨k + 2, out ++ q, f, by omega, by rw [HSL.out]; omega, by go_num, rfl, by rw [List.length_append]; omega, by rw [HSL.out]; omega, HRES.out, hb5⟩
                          case measure => simp [intOf]; omega
              · have d2 : ((d.toNat : Int) == 92) = false := byte_neb 92 h92
                have d3 : ((d.toNat : Int) != 92) = true := by rw [bne, d2]; rfl
                have HCHR := Lib.hid (show St.chr (d :: s.data.toList.drop (k + 1)) = if St.utf8 (d :: s.data.toList.drop (k + 1)) = 0 then .bad 2 0 else .ok (St.rune (d :: s.data.toList.drop (k + 1))) (St.utf8 (d :: s.data.toList.drop (k + 1))) by rw [St.chr_cons]; rw [if_neg h32, if_neg h92])
                have henc := St.encode_rune (d :: s.data.toList.drop (k + 1))
                have hle := St.utf8_le (d :: s.data.toList.drop (k + 1))
                go_wp2_with fail
                refine (HU8.out _).mono ?_
                rintro e w' ⟨rfl, rfl⟩
                generalize St.utf8 (d :: s.data.toList.drop (k + 1)) = m at HCHR henc hle ⊢
                by_cases hm : m = 0
                · subst hm
                  rw [if_pos rfl] at HCHR
                  have HRES := Lib.hid (show R = .bad 2 (k + 0) by rw [← HRUN.out, St.run_bad f out k hd34 HCHR.out])
                  clear hd34 HRUN HU8 HEX hdd hdl h92 henc
                  go_wp2_with fail
                  refine bodyPost_ret (results_tmp4 rfl _ _ _) rfl ?_
                  exact RUnq.bad (k := 2) (p := ((k + 0 : Nat) : Int)) (by rw [HX.out, HRES.out]; rfl) (by omega) hW
                · rw [if_neg hm] at HCHR
                  have HRES := Lib.hid (show St.run f (s.data.toList.drop (k + m)) (out ++ Lib.encodeRune (St.rune (d :: s.data.toList.drop (k + 1)) : Int)) (k + m) = R by rw [← HRUN.out, St.run_more f out k hd34 HCHR.out, hdd])
                  rw [henc hm] at HRES
                  rw [hdl] at hle
                  have hm' : ((m : Int) == 0) = false := by rw [beq_eq_false_iff_ne]; omega
                  have hex := HEX.out m
                  rw [Nat.add_sub_cancel_left] at hex
                  generalize hq : (d :: s.data.toList.drop (k + 1)).take m = q at HRES hex
                  have hql : q.length ≤ 4 := by rw [← hq, List.length_take]; omega
                  have ha1 := fun W => cat_lists W out q (by omega)
                  have hm1 : 1 ≤ m := by omega
                  clear hd34 HRUN HU8 HEX hdd hdl h92 henc hq hm
                  go_wp2_with fail
                  go_roundw
                  case rel => exact ⟨k + m, out ++ q, f, by omega, by rw [HSL.out]; omega, by go_num, rfl, by rw [List.length_append]; omega, by rw [HSL.out]; omega, HRES.out, hW⟩
                  case measure => simp [intOf]; omega
        · obtain rfl : k = s.size := by omega
          have HRES := Lib.hid (show R = .bad 1 s.size by rw [← HRUN.out, List.drop_eq_nil_of_le (by rw [HSL.out]; omega)]; rfl)
          clear HRUN
          go_wp2_with fail
          refine bodyPost_ret (results_tmp4 rfl _ _ _) rfl ?_
          exact RUnq.bad (k := 1) (p := (s.size : Int)) (by rw [HX.out, HRES.out]; rfl) rfl hW
    · have b1 : ((c.toNat : Int) == 34) = false := byte_neb 34 hc
      have b2 : ((c.toNat : Int) != 34) = true := by rw [bne, b1]; rfl
      rw [if_neg hc] at HX
      clear hc
      go_enter Tryd.func21, Tryd.ntmps21
      go_wp2_with fail
      refine bodyPost_ret (results_tmp4 rfl _ _ _) rfl ?_
      exact RUnq.bad HX.out rfl (Below.refl _ _)

end Go.Proofs.YtbcoakonjgakbaaDoor
