/- The walk of the program's tellKeyword (layer 11). (By gen_dn.py.) -/
import Derived.Test.YtlhinefalkfjaaaGreatDoorDm
import Derived.Test.YtlhinefalkfjaaaGreatDoorDh
import Derived.Test.YtlhinefalkfjaaaGreatDoorCj
import Derived.Test.YtlhinefalkfjaaaGreatDoorKe
namespace Go.Proofs.YtlhinefalkfjaaaGreatDoor
open Go.RowKit Js Pt

def G11 (w : World) : Prop := Tab w ∧ ErrT w ∧ MaxT w
theorem stays11 : Stays G11 := fun _ _ h hb => ⟨h.1.keep hb, h.2.1.on hb, h.2.2.on hb⟩
def Env (gm : Nat) (w : World) : Prop := ∃ w0 : World, G11 w0 ∧ w0.heap.size ≤ gm ∧ Below w0.heap.size w0 w
section
variable {gm : Nat} {w w' : World} {A : Option Addr}
theorem Env.all (h : Env gm w) : G11 w := by obtain ⟨w0, h1, _, h3⟩ := h; exact stays11 _ _ h1 h3
theorem Env.on (h : Env gm w) (hl : gm < w.heap.size) (hb : Below w.heap.size w w') : Env gm w' := by
  obtain ⟨w0, h1, h2, h3⟩ := h
  exact ⟨w0, h1, h2, h3.trans (hb.mono (by omega))⟩
theorem Env.but (h : Env gm w) (hl : gm < w.heap.size) (hA : ∀ b, Bk A b → gm < b) (hb : But (LX gm A) w w') : Env gm w' := by
  obtain ⟨w0, h1, h2, h3⟩ := h
  refine ⟨w0, h1, h2, h3.trans (hb.below (by omega) (fun b hb2 k => ?_))⟩
  rcases k with k | k
  · omega
  · have := hA b k; omega
end
theorem Blk.one {w : World} {g : Nat} {t : TypeId} {c0 : Value} (h : Blk w g t #[c0]) : w.cell? ⟨g, 0, none⟩ = some c0 := h.cell 0
abbrev set10 (w : World) (g : Nat) (v0 v1 v2 v3 v4 v5 v6 v7 v8 v9 : Value) : World :=
  (((((((((w.setCell ⟨g, 0, none⟩ v0).setCell ⟨g, 1, none⟩ v1).setCell ⟨g, 2, none⟩ v2).setCell ⟨g, 3, none⟩ v3).setCell ⟨g, 4, none⟩ v4).setCell ⟨g, 5, none⟩ v5).setCell ⟨g, 6, none⟩ v6).setCell ⟨g, 7, none⟩ v7).setCell ⟨g, 8, none⟩ v8).setCell ⟨g, 9, none⟩ v9
theorem Blk.set10 {w : World} {g : Nat} {t : TypeId} {c0 c1 c2 c3 c4 c5 c6 c7 c8 c9 : Value} (h : Blk w g t #[c0, c1, c2, c3, c4, c5, c6, c7, c8, c9]) (v0 v1 v2 v3 v4 v5 v6 v7 v8 v9 : Value) :
    Blk (set10 w g v0 v1 v2 v3 v4 v5 v6 v7 v8 v9) g t #[v0, v1, v2, v3, v4, v5, v6, v7, v8, v9] :=
  have h0 : Blk _ g t [v0, c1, c2, c3, c4, c5, c6, c7, c8, c9].toArray := Blk.setL (l := [c0, c1, c2, c3, c4, c5, c6, c7, c8, c9]) h 0 v0
  have h1 : Blk _ g t [v0, v1, c2, c3, c4, c5, c6, c7, c8, c9].toArray := h0.setL 1 v1
  have h2 : Blk _ g t [v0, v1, v2, c3, c4, c5, c6, c7, c8, c9].toArray := h1.setL 2 v2
  have h3 : Blk _ g t [v0, v1, v2, v3, c4, c5, c6, c7, c8, c9].toArray := h2.setL 3 v3
  have h4 : Blk _ g t [v0, v1, v2, v3, v4, c5, c6, c7, c8, c9].toArray := h3.setL 4 v4
  have h5 : Blk _ g t [v0, v1, v2, v3, v4, v5, c6, c7, c8, c9].toArray := h4.setL 5 v5
  have h6 : Blk _ g t [v0, v1, v2, v3, v4, v5, v6, c7, c8, c9].toArray := h5.setL 6 v6
  have h7 : Blk _ g t [v0, v1, v2, v3, v4, v5, v6, v7, c8, c9].toArray := h6.setL 7 v7
  have h8 : Blk _ g t [v0, v1, v2, v3, v4, v5, v6, v7, v8, c9].toArray := h7.setL 8 v8
  h8.setL 9 v9
theorem But.one {g : Nat} {w w' : World} (h : But (fun b => b = g) w w') (i : Nat) (u : Value) : But (fun b => b = g) w (w'.setCell ⟨g, i, none⟩ u) := h.set (p := ⟨g, i, none⟩) (.inr rfl) u
theorem but_set10 (w : World) (g : Nat) (v0 v1 v2 v3 v4 v5 v6 v7 v8 v9 : Value) : But (fun b => b = g) w (set10 w g v0 v1 v2 v3 v4 v5 v6 v7 v8 v9) :=
  ((((((((((But.refl (fun b => b = g) w).one 0 v0).one 1 v1).one 2 v2).one 3 v3).one 4 v4).one 5 v5).one 6 v6).one 7 v7).one 8 v8).one 9 v9
theorem as_spell (k : Int) (g : Nat) (p : List UInt8) (w : World) (hg : ErrT w) (hb : Blk w g 66 #[.string ⟨p.toArray⟩, .int .i64 0]) :
    Calls Tryz.prog 44 #[.iface 64 (.int .i64 k), .iface 100 (.pointer (some ⟨g, 1, none⟩))] w fun ev w' => ev = .returned (.bool true) ∧ SpellAt w' g p k ∧ Below g w w' ∧ w.heap.size ≤ w'.heap.size := by
  have hlt : g < w.heap.size := hb.lt
  refine (as_hit k ⟨g, 1, none⟩ (.int .i64 0) w hg (hb.cell 1) (hb.frozen 1)).mono ?_
  rintro e w' ⟨rfl, rfl⟩
  have h4 := (((hb.alloc (.cells #[.pointer (some ⟨g, 1, none⟩)] 100)).alloc (.cells #[.pointer (some ⟨7, 100, none⟩), .pointer (some ⟨w.heap.size, 0, none⟩), .int .u64 150] 117)).alloc (.cells #[.pointer (some ⟨7, 100, none⟩), .pointer (some ⟨w.heap.size, 0, none⟩), .int .u64 150] 117)).alloc (.cells #[.int .i64 k] 64)
  have h5 := Blk.setL (l := [.string ⟨p.toArray⟩, .int .i64 0]) h4 1 (.int .i64 k)
  exact ⟨rfl, ⟨h5.cell 0, h5.cell 1⟩, Below.setCell (p := ⟨g, 1, none⟩) (((((Below.refl g w).alloc (by omega) _).alloc (by simp; omega) _).alloc (by simp; omega) _).alloc (by simp; omega) _) (Nat.le_refl _) _, by simp [World.setCell]; omega⟩

def TellC (f : Nat) : Prop := ∀ (v : Vl), v.size ≤ f → Wide v → ∀ (gm : Nat) (Y : Nat → Prop) (A : Option Addr) (cp : Nat) (acc : List Cm.Wn) (P : Cm.Names) (w : World) (x : Value) (S : Nat → Prop), Env gm w → Tk gm Y A cp acc w → (∀ b, S b → b < w.heap.size ∧ ¬ LX gm A b ∧ ¬ Y b) → v.In (w.on S) x → (text P).length + 5000000 * v.size ≤ 10000000000000 →
  Calls Tryz.prog 16 #[.pointer (some ⟨gm, 0, none⟩), .string ⟨(text P).toArray⟩, x] w (TellP gm Y A acc (Cm.node f acc.length P v) w)
def KeyC (f : Nat) : Prop := ∀ (nm : List UInt8) (v : Vl), v.size ≤ f → Wide v → nm.length ≤ 1000000 → ∀ (gm : Nat) (Y : Nat → Prop) (A : Option Addr) (cp : Nat) (acc : List Cm.Wn) (P : Cm.Names) (w : World) (y_1 : Int) (y_2 y_3 : Bool) (y_4 : List UInt8) (y_5 : Int) (y_6 : List UInt8) (y_7 : Option Addr) (y_8 y_9 : Nat) (y_a : Option Addr) (y_b y_c : Nat) (S : Nat → Prop), Env gm w → Tk gm Y A cp acc w → (∀ b, S b → b < w.heap.size ∧ ¬ LX gm A b ∧ ¬ Y b) → v.In (w.on S) (.agg #[.int .i64 y_1, .bool y_2, .bool y_3, .string ⟨y_4.toArray⟩, .int .i64 y_5, .string ⟨y_6.toArray⟩, .slice y_7 y_8 y_9, .slice y_a y_b y_c]) → (text P).length + 5000000 * v.size + 4500000 ≤ 10000000000000 →
  Calls Tryz.prog 32 #[.pointer (some ⟨gm, 0, none⟩), .string ⟨(text P).toArray⟩, .agg #[.string ⟨nm.toArray⟩, .int .i64 y_1, .bool y_2, .bool y_3, .string ⟨y_4.toArray⟩, .int .i64 y_5, .string ⟨y_6.toArray⟩, .slice y_7 y_8 y_9, .slice y_a y_b y_c]] w (KeyP gm Y A acc nm v (Cm.keyN (Cm.node f) P acc.length nm v) w)

def Off11 (Sk : Nat → Prop) (gm : Nat) (Yx : Nat → Prop) (A' : Option Addr) (W : World) : Prop := ∀ b, Sk b → b < W.heap.size ∧ ¬ LX gm A' b ∧ ¬ Yx b
theorem Off11.step {Sk : Nat → Prop} {gm : Nat} {Yx Yx' : Nat → Prop} {A' A'' : Option Addr} {W W' : World} (h : Off11 Sk gm Yx A' W) (hr : RowOn A' A'' W) (hy : ∀ b, b < W.heap.size → Yx' b → Yx b) (hs : W.heap.size ≤ W'.heap.size) : Off11 Sk gm Yx' A'' W' := fun b hb => by
  obtain ⟨h1, h2, h3⟩ := h b hb
  exact ⟨Nat.lt_of_lt_of_le h1 hs, fun k => h2 (LX.back hr b h1 k), fun k => h3 (hy b h1 k)⟩
theorem KwW.off11 {w : World} {gm : Nat} {Y : Nat → Prop} {A A' : Option Addr} {cp' : Nat} {acc : List Cm.Wn} {r : List Cm.Node} {cs : Array Value} {gk : Nat} {kc : List Value} {Ad : Option Addr} {cd : Nat} {ks : List (List UInt8 × Nat)} {W W5 : World} {S : Nat → Prop}
    (h : KwW w gm Y A A' cp' acc r cs gk kc Ad cd ks W) (hS : ∀ b, S b → b < w.heap.size ∧ ¬ LX gm A b ∧ ¬ Y b) : Off11 (fun b => (S b ∨ W.heap.size ≤ b) ∧ b < W5.heap.size) gm (Yk w Y gk Ad) A' W5 := fun b hb => by
  obtain ⟨hb, hlt⟩ := hb
  have hgt := h.gt
  have hkl := h.key.lt
  refine ⟨hlt, fun k => ?_, fun k => ?_⟩
  · rcases hb with hb | hb
    · exact (hS b hb).2.1 (LX.back h.on b (hS b hb).1 k)
    · rcases k with k | k
      · have := h.lt; omega
      · have := (h.maker.rowAt k).2; omega
  · rcases hb with hb | hb
    · have h1 := (hS b hb).1
      rcases k with k | k | k | k
      · exact (hS b hb).2.2 k
      · omega
      · omega
      · have := (h.kidAt k).1; omega
    · rcases k with k | k | k | k
      · have := h.yl b k; omega
      · omega
      · omega
      · have := (h.kidAt k).2.1; omega
theorem errV_yes {c : Nat} (hc : ¬ c = 0) : errV (c : Int) = .iface 64 (.int .i64 c) := if_neg (by omega)
theorem KwW.fail {w : World} {gm : Nat} {Y : Nat → Prop} {A : Option Addr} {W' : World} (hbut : But (LX gm A) w W') {acc : List Cm.Wn} {nm : List UInt8} {v : Vl} {R : Cm.Res (List (List UInt8 × Nat) × List Cm.Node)} {c : Nat} {q : Cm.Names} {b : Nat} (hR : R = .bad c q) (hc : ¬ c = 0) (hb : w.heap.size + 2 ≤ b) (hs : SpellAt W' b (text q) c) :
    KeyP gm Y A acc nm v R w (.returned (.tuple #[.agg zeroKey, spellV b])) (set10 W' (w.heap.size + 1) (.string ⟨#[]⟩) (.int .i64 0) (.bool false) (.bool false) (.string ⟨#[]⟩) (.int .i64 0) (.string ⟨#[]⟩) (.slice none 0 0) (.slice none 0 0) (.slice none 0 0)) := by
  have hb10 := but_set10 W' (w.heap.size + 1) (.string ⟨#[]⟩) (.int .i64 0) (.bool false) (.bool false) (.string ⟨#[]⟩) (.int .i64 0) (.string ⟨#[]⟩) (.slice none 0 0) (.slice none 0 0) (.slice none 0 0)
  have hbl : b < W'.heap.size := World.block_lt_of_cell? _ _ hs.1
  have hcell : ∀ o, (set10 W' (w.heap.size + 1) (.string ⟨#[]⟩) (.int .i64 0) (.bool false) (.bool false) (.string ⟨#[]⟩) (.int .i64 0) (.string ⟨#[]⟩) (.slice none 0 0) (.slice none 0 0) (.slice none 0 0)).cell? ⟨b, o, none⟩ = W'.cell? ⟨b, o, none⟩ := fun o => World.cell?_of_block (hb10.block b hbl (by omega))
  exact ⟨hbut.trans hb10 (fun b hb2 k => by omega), .inr ⟨c, q, b, hR, hc, rfl, by omega, (hcell 0).trans hs.1, (hcell 1).trans hs.2⟩⟩

set_option linter.unusedVariables false in
set_option linter.unusedSimpArgs false in
set_option maxRecDepth 100000 in
set_option maxHeartbeats 9000000 in
theorem key_step (f : Nat) (IH : TellC f) : KeyC f := by
  intro nm v hvf hwd hnl gm Y A cp acc P w y_1 y_2 y_3 y_4 y_5 y_6 y_7 y_8 y_9 y_a y_b y_c S hE hM hS hx hlen
  have HIH := Lib.hid IH
  have HE := Lib.hid hE
  have HM := Lib.hid hM
  have HS := Lib.hid hS
  have HX := Lib.hid hx
  have HWD := Lib.hid hwd
  have HLEN := Lib.hid hlen
  have hgm := hM.lt
  have HB0 := Lib.hid (show Below w.heap.size w ((w.alloc (.cells #[.string ⟨nm.toArray⟩, .int .i64 y_1, .bool y_2, .bool y_3, .string ⟨y_4.toArray⟩, .int .i64 y_5, .string ⟨y_6.toArray⟩, .slice y_7 y_8 y_9, .slice y_a y_b y_c] 88)).alloc (.cells zeroKey 55)) from ((Below.refl _ _).alloc (Nat.le_refl _) _).alloc (by simp) _)
  have HBOX := Lib.hid (show Blk ((w.alloc (.cells #[.string ⟨nm.toArray⟩, .int .i64 y_1, .bool y_2, .bool y_3, .string ⟨y_4.toArray⟩, .int .i64 y_5, .string ⟨y_6.toArray⟩, .slice y_7 y_8 y_9, .slice y_a y_b y_c] 88)).alloc (.cells zeroKey 55)) w.heap.size 88 #[.string ⟨nm.toArray⟩, .int .i64 y_1, .bool y_2, .bool y_3, .string ⟨y_4.toArray⟩, .int .i64 y_5, .string ⟨y_6.toArray⟩, .slice y_7 y_8 y_9, .slice y_a y_b y_c] from (Blk.new w 88 _).alloc _)
  have HZ := Lib.hid (show Blk ((w.alloc (.cells #[.string ⟨nm.toArray⟩, .int .i64 y_1, .bool y_2, .bool y_3, .string ⟨y_4.toArray⟩, .int .i64 y_5, .string ⟨y_6.toArray⟩, .slice y_7 y_8 y_9, .slice y_a y_b y_c] 88)).alloc (.cells zeroKey 55)) (w.heap.size + 1) 55 zeroKey from Blk.new2 w (.cells #[.string ⟨nm.toArray⟩, .int .i64 y_1, .bool y_2, .bool y_3, .string ⟨y_4.toArray⟩, .int .i64 y_5, .string ⟨y_6.toArray⟩, .slice y_7 y_8 y_9, .slice y_a y_b y_c] 88) 55 _)
  have HRA := Lib.hid (fun b k => (hM.rowAt (b := b) k).1)
  clear IH hE hM hS hx hwd hlen
  go_enter Tryz.func32, Tryz.ntmps32
  go_upto_region 1 with (fail)
  generalize (w.alloc (.cells #[.string ⟨nm.toArray⟩, .int .i64 y_1, .bool y_2, .bool y_3, .string ⟨y_4.toArray⟩, .int .i64 y_5, .string ⟨y_6.toArray⟩, .slice y_7 y_8 y_9, .slice y_a y_b y_c] 88)).alloc (.cells zeroKey 55) = w0 at *
  obtain ⟨a0, a1, a2, a3, a4, a5, a6, a7, a8⟩ := HBOX.out.nine
  have hal := HBOX.out.lt
  have htl : (text [nm]).length ≤ 2000001 := by
    have := text_len 1000000 [nm] (fun n hn => by rw [List.mem_singleton.1 hn]; exact hnl)
    simp at this; omega
  have HP := Lib.hid (fun W (hW : Below w.heap.size w W) (h : Strs W.cell? (some ⟨w0.heap.size, 0, none⟩) [nm]) => ptrShow_any [nm] (some ⟨w0.heap.size, 0, none⟩) 1 W (HE.out.on hgm hW).all.2.2 h (Nat.le_refl _) (by unfold maxLen; omega) (by omega))
  have hpl := HLEN.out
  have hcat : ∀ W, (Op.stringOp .add ⟨(text P).toArray⟩ ⟨(text [nm]).toArray⟩).run Tryz.prog W = .ok (.string ⟨(text (P ++ [nm])).toArray⟩) W := fun W => by rw [text_append]; exact cat_mk W _ _ (by omega)
  have HPL := Lib.hid (show (text (P ++ [nm])).length + 5000000 * v.size + 2400000 ≤ 10000000000000 by rw [text_append, List.length_append]; omega)
  clear htl hpl
  go_wp2_with fail
  refine (HP.out _ (HB0.out.alloc HB0.out.size _) (strs_one10 w0 _ nm)).mono ?_
  rintro e2 w2 ⟨rfl, hb2⟩
  have hb02 : Below w0.heap.size w0 w2 := ((Below.refl w0.heap.size w0).alloc (Nat.le_refl _) (.cells #[.string ⟨nm.toArray⟩] 9)).trans (hb2.mono (by simp))
  have HB2 := Lib.hid (HB0.out.trans (hb02.mono HB0.out.size))
  have HBOX2 := Lib.hid (HBOX.out.on hb02)
  have HZ2 := Lib.hid (HZ.out.on hb02)
  have HCK := Lib.hid (check_wide nm v (.agg #[.int .i64 y_1, .bool y_2, .bool y_3, .string ⟨y_4.toArray⟩, .int .i64 y_5, .string ⟨y_6.toArray⟩, .slice y_7 y_8 y_9, .slice y_a y_b y_c]) w2 (HE.out.on hgm HB2.out).all.1 HWD.out (In.keep ((on_all w S).trans (le_below HB2.out)) _ _ HX.out))
  clear a0 a1 a2 a3 a4 a5 a6 a7 a8 hal HP HBOX HZ HB0 hb2 hb02
  obtain ⟨a0, a1, a2, a3, a4, a5, a6, a7, a8⟩ := HBOX2.out.nine
  have hal := HBOX2.out.lt
  go_wp2_with fail
  refine HCK.out.mono ?_
  rintro e3 w3 ⟨rfl, hb3⟩
  have HB3 := Lib.hid (HB2.out.trans (hb3.mono HB2.out.size))
  have HBOX3 := Lib.hid (HBOX2.out.on hb3)
  have HZ3 := Lib.hid (HZ2.out.on hb3)
  clear a0 a1 a2 a3 a4 a5 a6 a7 a8 hal HBOX2 HZ2 HB2 hb3 HCK hcat
  obtain ⟨sh, hsh⟩ : ∃ sh, sh = Sh.shape nm v := ⟨_, rfl⟩
  rw [← hsh]
  have HSH := Lib.hid hsh
  clear hsh
  by_cases hsh0 : sh = 0
  · have hev : errV (sh : Int) = .nilIface := by rw [hsh0]; rfl
    rw [hev]
    clear hev
    have HKN := Lib.hid (show Cm.keyN (Cm.node f) P acc.length nm v = Cm.kidsN (Cm.node f) (Sh.single nm) (P ++ [nm]) acc.length (Sh.kids nm v) from if_pos (HSH.out.symm.trans hsh0))
    have HSH0 := Lib.hid (HSH.out.symm.trans hsh0)
    clear hsh0 HSH
    obtain ⟨a0, a1, a2, a3, a4, a5, a6, a7, a8⟩ := HBOX3.out.nine
    have hal := HBOX3.out.lt
    go_upto_region 8 with (fail)
    have HK := Lib.hid (KwW.start (kc := [.string ⟨nm.toArray⟩, .int .i64 y_1, .bool y_2, .bool y_3, .string ⟨y_4.toArray⟩, .int .i64 y_5, .string ⟨y_6.toArray⟩, .slice y_7 y_8 y_9, .slice y_a y_b y_c]) HM.out HB3.out ((Below.refl w3.heap.size w3).alloc (Nat.le_refl _) (.cells #[.string ⟨nm.toArray⟩, .int .i64 y_1, .bool y_2, .bool y_3, .string ⟨y_4.toArray⟩, .int .i64 y_5, .string ⟨y_6.toArray⟩, .slice y_7 y_8 y_9, .slice y_a y_b y_c, .slice none 0 0] 55)) HBOX3.out HZ3.out (Blk.new w3 _ _))
    clear a0 a1 a2 a3 a4 a5 a6 a7 a8 hal HBOX3 HZ3 HB3
    generalize w3.alloc (.cells #[.string ⟨nm.toArray⟩, .int .i64 y_1, .bool y_2, .bool y_3, .string ⟨y_4.toArray⟩, .int .i64 y_5, .string ⟨y_6.toArray⟩, .slice y_7 y_8 y_9, .slice y_a y_b y_c, .slice none 0 0] 55) = w4 at *
    generalize w3.heap.size = gk at *
    have HKD := Lib.hid (kids10_on S nm v (.agg #[.int .i64 y_1, .bool y_2, .bool y_3, .string ⟨y_4.toArray⟩, .int .i64 y_5, .string ⟨y_6.toArray⟩, .slice y_7 y_8 y_9, .slice y_a y_b y_c]) w4 (fun b hb => Nat.lt_of_lt_of_le (HS.out b hb).1 HK.out.but.size) (HE.out.but hgm HRA.out HK.out.but).all.1 HWD.out (In.keep (HK.out.but.on (fun b k => k) (fun b k _ => (HS.out b k).2.1)) _ _ HX.out) HSH0.out)
    obtain ⟨a0, a1, a2, a3, a4, a5, a6, a7, a8⟩ := HK.out.box.nine
    have hal := HK.out.box.lt
    go_wp2_with fail
    refine HKD.out.mono ?_
    rintro e5 w5 ⟨B5, cb5, rfl, hsm, hle1, hle2, hb5⟩
    have HK5 := Lib.hid (HK.out.next hb5)
    have HOF := Lib.hid (HK.out.off11 (W5 := w5) HS.out)
    have HSM := Lib.hid (hsm.keep (on_keep (w := w5) (w' := w5) (S' := fun b => (S b ∨ w4.heap.size ≤ b) ∧ b < w5.heap.size) (fun b h h2 => ⟨h, h2⟩) (fun _ _ _ => rfl)))
    have hkl := kids_len10 nm v
    have hv2 := HWD.out.2.1
    have HKS := Lib.hid (fun q (hq : q ∈ Sh.kids nm v) => (kids_slim10 (by omega) HWD.out.2.2 HWD.out.2.1 hq))
    have HKZ := Lib.hid (fun q (hq : q ∈ Sh.kids nm v) => Cm.kids_size hq)
    have HKM := Lib.hid (fun q (hq : q ∈ Sh.kids nm v) => Cm.kids_may HWD.out.1 hq)
    have HSG := Lib.hid (single_any nm)
    clear hsm hb5 HK HKD a0 a1 a2 a3 a4 a5 a6 a7 a8 hal HSH0
    generalize Sh.kids nm v = kids at *
    generalize Sh.single nm = sg at *
    generalize (fun b => (S b ∨ w4.heap.size ≤ b) ∧ b < w5.heap.size) = Sk at *
    clear hle1 hle2
    have hk6 : kids.length ≤ 1000000 := by omega
    clear hkl
    go_wp2_with fail
    go_loopw [51] (fun i51 wr => ∃ (j : Nat) (A3 : Option Addr) (c3 : Nat) (r3 : List Cm.Node) (Ad : Option Addr) (cd : Nat) (ks : List (List UInt8 × Nat)), i51 = .int .i64 j ∧ j ≤ kids.length ∧ ks.length = j ∧ KwW w gm Y A A3 c3 acc r3 #[.string ⟨nm.toArray⟩, .int .i64 y_1, .bool y_2, .bool y_3, .string ⟨y_4.toArray⟩, .int .i64 y_5, .string ⟨y_6.toArray⟩, .slice y_7 y_8 y_9, .slice y_a y_b y_c] gk [.string ⟨nm.toArray⟩, .int .i64 y_1, .bool y_2, .bool y_3, .string ⟨y_4.toArray⟩, .int .i64 y_5, .string ⟨y_6.toArray⟩, .slice y_7 y_8 y_9, .slice y_a y_b y_c] Ad cd ks wr ∧ SlM (wr.on Sk) B5 kids ∧ Off11 Sk gm (Yk w Y gk Ad) A3 wr ∧ Cm.kidsN (Cm.node f) sg (P ++ [nm]) acc.length (kids.take j) = .ok (ks, r3)) (fun i _ => kids.length - (intOf i).toNat)
    case atStart => exact ⟨0, A, cp, [], none, 0, [], rfl, Nat.zero_le _, rfl, HK5.out, HSM.out, HOF.out, by simp [Cm.kidsN]⟩
    case round =>
      obtain ⟨j, A3, c3, r3, Ad, cd, ks, rfl, hj, hks, hK, hsm, hof, hmode⟩ := hrel
      have HK := Lib.hid hK
      have HSM3 := Lib.hid hsm
      have HOF3 := Lib.hid hof
      have HMD := Lib.hid hmode
      have HKS3 := Lib.hid hks
      clear hK hsm hof hmode hks HK5 HSM HOF
      by_cases hlt3 : j < kids.length
      · have hlt4 : (j : Int) < (kids.length : Int) := by omega
        obtain ⟨gK, oK, u, rfl, hu, hkn, hkc⟩ := HSM3.out j _ (List.getElem?_eq_getElem hlt3)
        obtain ⟨u_1, u_2, u_3, u_4, u_5, u_6, u_7, u_8, u_9, u_a, u_b, u_c, rfl⟩ := In.cells hu
        have hq1 := HKS.out _ (List.getElem_mem hlt3)
        have hq2 := HKZ.out _ (List.getElem_mem hlt3)
        have hq3 := HKM.out _ (List.getElem_mem hlt3)
        have HNX2 := Lib.hid (Cm.kidsN_next hlt3 HMD.out)
        have e9 := (on_some.1 hkn).2
        have HU := Lib.hid hu
        obtain ⟨e0, e1, e2, e3, e4, e5, e6, e7⟩ := (hkc.keep (on_all _ _)).eight
        have hgl := World.block_lt_of_cell? _ _ e9
        clear hu hkn hkc
        generalize kids[j]'hlt3 = q at *
        obtain ⟨key, kv⟩ := q
        simp only at hq1 hq2 hq3 e9 HNX2 HU
        obtain ⟨hkl2, hksl⟩ := hq1
        go_upto_region 11 with (fail)
        have hbq := (Below.refl wr.heap.size wr).alloc (Nat.le_refl _) (.cells #[.string ⟨key.toArray⟩, .int .i64 u_1, .bool u_2, .bool u_3, .string ⟨u_4.toArray⟩, .int .i64 u_5, .string ⟨u_6.toArray⟩, .slice u_7 u_8 u_9, .slice u_a u_b u_c] 88)
        have HK7 := Lib.hid (HK.out.next hbq)
        have HQ := Lib.hid (Blk.new wr 88 #[.string ⟨key.toArray⟩, .int .i64 u_1, .bool u_2, .bool u_3, .string ⟨u_4.toArray⟩, .int .i64 u_5, .string ⟨u_6.toArray⟩, .slice u_7 u_8 u_9, .slice u_a u_b u_c])
        have HOF7 := Lib.hid (HOF3.out.step (RowOn.refl _ _) (fun _ _ k => k) hbq.size)
        have hle7 : Cl.le (wr.on Sk) ((wr.alloc (.cells #[.string ⟨key.toArray⟩, .int .i64 u_1, .bool u_2, .bool u_3, .string ⟨u_4.toArray⟩, .int .i64 u_5, .string ⟨u_6.toArray⟩, .slice u_7 u_8 u_9, .slice u_a u_b u_c] 88)).on Sk) := on_keep (fun b h _ => h) (fun b h _ => hbq.block b (HOF3.out b h).1)
        have HSM7 := Lib.hid (HSM3.out.keep hle7)
        have HU7 := Lib.hid (In.keep hle7 _ _ HU.out)
        have HQX := Lib.hid (show (¬ wr.heap.size = gk ∧ ¬ Bk Ad wr.heap.size ∧ ¬ LX gm A3 wr.heap.size) from ⟨by have := HK.out.key.lt; omega, fun k => by have := (HK.out.kidAt k).2.1; omega, fun k => by
          rcases k with k | k
          · have := HK.out.maker.lt; omega
          · have := (HK.out.maker.rowAt k).2; omega⟩)
        clear HK HSM3 HOF3 HU hle7 hbq e0 e1 e2 e3 e4 e5 e6 e7 e9 hgl
        generalize wr.alloc (.cells #[.string ⟨key.toArray⟩, .int .i64 u_1, .bool u_2, .bool u_3, .string ⟨u_4.toArray⟩, .int .i64 u_5, .string ⟨u_6.toArray⟩, .slice u_7 u_8 u_9, .slice u_a u_b u_c] 88) = wa at *
        generalize wr.heap.size = gq at *
        obtain ⟨N3, hN3⟩ : ∃ N, (acc ++ r3.map Cm.Wn.ok).length = N := ⟨_, rfl⟩
        have hN3l : N3 = acc.length + r3.length := by rw [← hN3, List.length_append, List.length_map]
        have hf3 := HK7.out.maker.few
        have HBT := Lib.hid (show Blk wa gm 68 #[.slice A3 N3 c3] by rw [← hN3]; exact HK7.out.maker.blk)
        have HN3 := Lib.hid hN3
        have HN3L := Lib.hid hN3l
        rw [hN3] at hf3
        clear hN3 hN3l
        go_cut [67] from 55 to 67 (fun v67 wc => v67 = .pointer (some ⟨gk, 9, none⟩) ∧ ∃ (Ad2 : Option Addr) (cd2 : Nat), KwW w gm Y A A3 c3 acc r3 #[.string ⟨nm.toArray⟩, .int .i64 y_1, .bool y_2, .bool y_3, .string ⟨y_4.toArray⟩, .int .i64 y_5, .string ⟨y_6.toArray⟩, .slice y_7 y_8 y_9, .slice y_a y_b y_c] gk [.string ⟨nm.toArray⟩, .int .i64 y_1, .bool y_2, .bool y_3, .string ⟨y_4.toArray⟩, .int .i64 y_5, .string ⟨y_6.toArray⟩, .slice y_7 y_8 y_9, .slice y_a y_b y_c] Ad2 cd2 (ks ++ [(key, N3)]) wc ∧ RowOn Ad Ad2 wa ∧ But (fun b => b = gk ∨ Bk Ad b) wa wc)
        case first =>
          have HDR := Lib.hid (show KwW w gm Y A A3 c3 acc r3 #[.string ⟨nm.toArray⟩, .int .i64 y_1, .bool y_2, .bool y_3, .string ⟨y_4.toArray⟩, .int .i64 y_5, .string ⟨y_6.toArray⟩, .slice y_7 y_8 y_9, .slice y_a y_b y_c] gk [.string ⟨nm.toArray⟩, .int .i64 y_1, .bool y_2, .bool y_3, .string ⟨y_4.toArray⟩, .int .i64 y_5, .string ⟨y_6.toArray⟩, .slice y_7 y_8 y_9, .slice y_a y_b y_c] Ad cd ks wa.drew from HK7.out.next (below_drewN (Below.refl _ _) 1))
          have HBD := Lib.hid (show But (fun b => b = gk ∨ Bk Ad b) wa wa.drew from But.of (below_drewN (Below.refl _ _) 1))
          have hksz : ks.length ≤ 1000000 := by have := HKS3.out; omega
          have hggk : ¬ gm = gk := by have := HK7.out.gt; have := HK7.out.lt; omega
          refine wp_region_held_drew (S := (fun W9 => Blk W9 gm 68 #[.slice A3 N3 c3] ∧ Blk W9 gq 88 #[.string ⟨key.toArray⟩, .int .i64 u_1, .bool u_2, .bool u_3, .string ⟨u_4.toArray⟩, .int .i64 u_5, .string ⟨u_6.toArray⟩, .slice u_7 u_8 u_9, .slice u_a u_b u_c])) (by kernel_rfl) ⟨HBT.out, HQ.out⟩ (fun ht => ?_)
          have HSZ8 := Lib.hid (show wa.heap.size ≤ wa.drew.heap.size from Nat.le_refl _)
          generalize wa.drew = w8 at *
          refine wpAnyH_take (i := 0) (oi := ⟨some _, _, _, _, _, _⟩) (v := (.pointer (some ⟨gk, 9, none⟩))) rfl (by kernel_rfl) (by kernel_rfl) (by kernel_rfl) (fun _ _ _ h => h) (Or.inl ⟨by rfl, ?_⟩) ht ?_
          · intro W9 hSw
            go_simp
          try simp only [Act.put, List.setIfInBounds_toArray, List.set_cons_zero, List.set_cons_succ]
          refine wpAnyH_take (i := 2) (oi := ⟨some _, _, _, _, _, _⟩) (v := (.pointer (some ⟨gq, 0, none⟩))) rfl (by kernel_rfl) (by kernel_rfl) (by kernel_rfl) (fun _ _ _ h => h) (Or.inl ⟨by rfl, ?_⟩) ht ?_
          · intro W9 hSw
            go_simp
          try simp only [Act.put, List.setIfInBounds_toArray, List.set_cons_zero, List.set_cons_succ]
          refine wpAnyH_take (i := 3) (oi := ⟨some _, _, _, _, _, _⟩) (v := (.string ⟨key.toArray⟩)) rfl (by kernel_rfl) (by kernel_rfl) (by kernel_rfl) (fun _ _ _ h => h) (Or.inl ⟨by rfl, ?_⟩) ht ?_
          · intro W9 hSw
            obtain ⟨s0, s1, s2, s3, s4, s5, s6, s7, s8⟩ := hSw.2.nine
            go_simp
          try simp only [Act.put, List.setIfInBounds_toArray, List.set_cons_zero, List.set_cons_succ]
          refine wpAnyH_take (i := 4) (oi := ⟨some _, _, _, _, _, _⟩) (v := (.pointer (some ⟨gm, 0, none⟩))) rfl (by kernel_rfl) (by kernel_rfl) (by kernel_rfl) (fun _ _ _ h => h) (Or.inl ⟨by rfl, ?_⟩) ht ?_
          · intro W9 hSw
            go_simp
          try simp only [Act.put, List.setIfInBounds_toArray, List.set_cons_zero, List.set_cons_succ]
          refine wpAnyH_take (i := 5) (oi := ⟨some _, _, _, _, _, _⟩) (v := (.pointer (some ⟨gm, 0, none⟩))) rfl (by kernel_rfl) (by kernel_rfl) (by kernel_rfl) (fun _ _ _ h => h) (Or.inl ⟨by rfl, ?_⟩) ht ?_
          · intro W9 hSw
            go_simp
          try simp only [Act.put, List.setIfInBounds_toArray, List.set_cons_zero, List.set_cons_succ]
          refine wpAnyH_take (i := 6) (oi := ⟨some _, _, _, _, _, _⟩) (v := (.pointer (some ⟨gm, 0, none⟩))) rfl (by kernel_rfl) (by kernel_rfl) (by kernel_rfl) (fun _ _ _ h => h) (Or.inl ⟨by rfl, ?_⟩) ht ?_
          · intro W9 hSw
            go_simp
          try simp only [Act.put, List.setIfInBounds_toArray, List.set_cons_zero, List.set_cons_succ]
          refine wpAnyH_take (i := 7) (oi := ⟨some _, _, _, _, _, _⟩) (v := (.slice A3 N3 c3)) rfl (by kernel_rfl) (by kernel_rfl) (by kernel_rfl) (fun _ _ _ h => h) (Or.inl ⟨by rfl, ?_⟩) ht ?_
          · intro W9 hSw
            have t0 := hSw.1.one
            go_simp
          try simp only [Act.put, List.setIfInBounds_toArray, List.set_cons_zero, List.set_cons_succ]
          refine wpAnyH_take (i := 8) (oi := ⟨some _, _, _, _, _, _⟩) (v := (.int .i64 N3)) rfl (by kernel_rfl) (by kernel_rfl) (by kernel_rfl) (fun _ _ _ h => h) (Or.inl ⟨by rfl, ?_⟩) ht ?_
          · intro W9 hSw
            go_simp
          try simp only [Act.put, List.setIfInBounds_toArray, List.set_cons_zero, List.set_cons_succ]
          refine wpAnyH_take (i := 9) (oi := ⟨some _, _, _, _, _, _⟩) (v := (.agg #[.string ⟨key.toArray⟩, .int .i64 N3])) rfl (by kernel_rfl) (by kernel_rfl) (by kernel_rfl) (fun _ _ _ h => h) (Or.inl ⟨by rfl, ?_⟩) ht ?_
          · intro W9 hSw
            go_simp
          try simp only [Act.put, List.setIfInBounds_toArray, List.set_cons_zero, List.set_cons_succ]
          refine wpAnyH_ready (rs := [1, 10]) (by kernel_rfl) (by simp) ?_
          refine AllReadyH.cons (o := ⟨some _, _, _, _, _, _⟩) rfl (fun K hK => ?_) (AllReadyH.cons (o := ⟨some _, _, _, _, _, _⟩) rfl (fun K hK => ?_) (AllReadyH.nil))
          · obtain ⟨z0, z1, z2, z3, z4, z5, z6, z7, z8, z9⟩ := HDR.out.key.ten
            go_simp
            refine hK.out _ _ ht (fun ht => ?_)
            clear hK K z0 z1 z2 z3 z4 z5 z6 z7 z8 z9
            try simp only [Act.put, List.setIfInBounds_toArray, List.set_cons_zero, List.set_cons_succ]
            refine wpAnyH_ready (rs := [10]) (by kernel_rfl) (by simp) ?_
            refine AllReadyH.cons (o := ⟨some _, _, _, _, _, _⟩) rfl (fun K hK => ?_) (AllReadyH.nil)
            go_simp
            refine via10 (K := K) (fun W9 => (fun W9 => Blk W9 gm 68 #[.slice A3 N3 c3] ∧ Blk W9 gq 88 #[.string ⟨key.toArray⟩, .int .i64 u_1, .bool u_2, .bool u_3, .string ⟨u_4.toArray⟩, .int .i64 u_5, .string ⟨u_6.toArray⟩, .slice u_7 u_8 u_9, .slice u_a u_b u_c]) W9 ∧ Blk W9 w8.heap.size 57 #[.string ⟨key.toArray⟩, .int .i64 N3] ∧ KwW w gm Y A A3 c3 acc r3 #[.string ⟨nm.toArray⟩, .int .i64 y_1, .bool y_2, .bool y_3, .string ⟨y_4.toArray⟩, .int .i64 y_5, .string ⟨y_6.toArray⟩, .slice y_7 y_8 y_9, .slice y_a y_b y_c] gk [.string ⟨nm.toArray⟩, .int .i64 y_1, .bool y_2, .bool y_3, .string ⟨y_4.toArray⟩, .int .i64 y_5, .string ⟨y_6.toArray⟩, .slice y_7 y_8 y_9, .slice y_a y_b y_c] Ad cd ks W9 ∧ But (fun b => b = gk ∨ Bk Ad b) wa W9 ∧ w8.heap.size ≤ W9.heap.size) ⟨⟨ht.1.alloc _, ht.2.alloc _⟩, Blk.new w8 _ _, HDR.out.next ((Below.refl _ _).alloc (Nat.le_refl _) _), HBD.out.trans (But.of ((Below.refl _ _).alloc (Nat.le_refl _) _)) (fun _ _ k => k), by simp⟩ ?_
            rintro w3 ⟨ht3, hn, hr3, hb3, hs3⟩
            have HN := Lib.hid hn
            clear hn ht
            refine hK.out _ _ ht3 (fun ht => ?_)
            clear hK K ht3
            try simp only [Act.put, List.setIfInBounds_toArray, List.set_cons_zero, List.set_cons_succ]
            obtain ⟨gN, hgN⟩ : ∃ g, g = w8.heap.size := ⟨_, rfl⟩
            rw [← hgN] at HN ⊢
            have hsw : wa.heap.size ≤ w3.heap.size := by have := HSZ8.out; omega
            clear hgN HDR HBD hs3
            have HDR := Lib.hid hr3
            have HBD := Lib.hid hb3
            clear hr3 hb3
            obtain ⟨flat, hown, hpush⟩ := RowX.push (It := ItKid) (fun h => ItKid.mono h) rfl HDR.out.kids
            obtain ⟨i0, hi0, hz0, hz1, hz2⟩ := infoKid
            have hsz3 : gk + 1 ≤ w3.heap.size := HDR.out.key.lt
            refine wpAnyH_ready (rs := [11]) (by kernel_rfl) (by simp) ?_
            refine AllReadyH.cons (o := ⟨some _, _, _, _, _, _⟩) rfl (fun K hK => ?_) (AllReadyH.nil)
            refine step_append_lies _ rfl _ _ _ rfl (gk + 1) 57 i0 _ 2 24 Tryz.underlying53 hi0 hz0 hz1 hz2 rfl (by omega) (.slice Ad ks.length cd) ks.length flat rfl hown ⟨gN, 0, none⟩ 1 1 (#[.string ⟨key.toArray⟩, .int .i64 N3] : Array Value).toList rfl rfl (World.news_of_block HN.out) (by simp [Value.oneCell']) (by omega) (by unfold maxLen; omega) (by omega) hsz3 _ rfl ?_
            intro g6 cap6 w6 hown6 hgr6 hat6 hlt6
            have hro := row_on (RowX.le HDR.out.kids).2.2 hgr6 hat6
            have HR6 := Lib.hid (hpush (a := (key, N3)) (Rn := fun _ => False) rfl (fun b h => h.elim) (by simp [Value.oneCell']) rfl hown6 hgr6 hat6)
            have hg6 := HDR.out.grow rfl hro.1 hro.2 HR6.out
            rw [show (ks ++ [(key, N3)]).length = ks.length + 1 by simp] at hg6
            have HG6 := Lib.hid hg6
            have HBE := Lib.hid ((HBD.out.trans hro.1 (fun _ _ k => .inr k)).set (p := ⟨gk, 9, none⟩) (.inr (.inl rfl)) (.slice (some ⟨g6, 0, none⟩) (ks.length + 1) cap6))
            have HRO := Lib.hid (show RowOn Ad (some ⟨g6, 0, none⟩) wa from fun b hb => (hro.2 b hb).imp id (fun k => by omega))
            have HKB := Lib.hid (hro.1.blk HDR.out.key (fun k => by have := (HDR.out.kidAt k).1; omega))
            have ht6 : (fun W9 => Blk W9 gm 68 #[.slice A3 N3 c3] ∧ Blk W9 gq 88 #[.string ⟨key.toArray⟩, .int .i64 u_1, .bool u_2, .bool u_3, .string ⟨u_4.toArray⟩, .int .i64 u_5, .string ⟨u_6.toArray⟩, .slice u_7 u_8 u_9, .slice u_a u_b u_c]) w6 := ⟨hro.1.blk ht.1 (fun k => (HDR.out.kidAt k).2.2 (.inl rfl)), hro.1.blk ht.2 HQX.out.2.1⟩
            clear hown6 hgr6 hat6 hown hpush ht hro HR6 HDR HN HBD hg6
            refine hK.out _ _ ht6 (fun ht => ?_)
            clear hK K ht6
            try simp only [Act.put, List.setIfInBounds_toArray, List.set_cons_zero, List.set_cons_succ]
            refine wpAnyH_take (i := 12) (oi := ⟨some _, _, _, _, _, _⟩) (v := (.pointer (some ⟨gk, 9, none⟩))) rfl (by kernel_rfl) (by kernel_rfl) (by kernel_rfl) (fun _ _ _ h => h) (Or.inl ⟨by rfl, ?_⟩) ht ?_
            · intro W9 hSw
              go_simp
            try simp only [Act.put, List.setIfInBounds_toArray, List.set_cons_zero, List.set_cons_succ]
            refine wpAnyH_ready (rs := [13]) (by kernel_rfl) (by simp) ?_
            refine AllReadyH.cons (o := ⟨none, _, _, _, _, _⟩) rfl (fun K hK => ?_) (AllReadyH.nil)
            obtain ⟨z0, z1, z2, z3, z4, z5, z6, z7, z8, z9⟩ := HKB.out.ten
            have zf := HKB.out.frozen 9
            have zl := HKB.out.lt
            go_simp
            refine via10 (K := K) (fun W9 => (fun W9 => Blk W9 gm 68 #[.slice A3 N3 c3] ∧ Blk W9 gq 88 #[.string ⟨key.toArray⟩, .int .i64 u_1, .bool u_2, .bool u_3, .string ⟨u_4.toArray⟩, .int .i64 u_5, .string ⟨u_6.toArray⟩, .slice u_7 u_8 u_9, .slice u_a u_b u_c]) W9 ∧ KwW w gm Y A A3 c3 acc r3 #[.string ⟨nm.toArray⟩, .int .i64 y_1, .bool y_2, .bool y_3, .string ⟨y_4.toArray⟩, .int .i64 y_5, .string ⟨y_6.toArray⟩, .slice y_7 y_8 y_9, .slice y_a y_b y_c] gk [.string ⟨nm.toArray⟩, .int .i64 y_1, .bool y_2, .bool y_3, .string ⟨y_4.toArray⟩, .int .i64 y_5, .string ⟨y_6.toArray⟩, .slice y_7 y_8 y_9, .slice y_a y_b y_c] (some ⟨g6, 0, none⟩) cap6 (ks ++ [(key, N3)]) W9 ∧ But (fun b => b = gk ∨ Bk Ad b) wa W9) ⟨⟨(Below.heap_setCell _ _ _ gm hggk).trans ht.1, (Below.heap_setCell _ _ _ gq HQX.out.1).trans ht.2⟩, HG6.out, HBE.out⟩ ?_
            rintro w7 ⟨ht7, hr7, hb7⟩
            have HKN7 := Lib.hid hr7
            have HBN := Lib.hid hb7
            clear hr7 hb7 HG6 HBE HKB z0 z1 z2 z3 z4 z5 z6 z7 z8 z9 zf zl
            refine hK.out _ _ ht7 (fun ht => ?_)
            clear hK K ht7
            try simp only [Act.put, List.setIfInBounds_toArray, List.set_cons_zero, List.set_cons_succ]
            refine wpAnyH_done (by kernel_rfl) ?_ _
            clear ht
            go_wp2_with fail
            go_meet
            case rel => exact ⟨rfl, _, _, HKN7.out, HRO.out, HBN.out⟩
          · go_simp
            refine via10 (K := K) (fun W9 => (fun W9 => Blk W9 gm 68 #[.slice A3 N3 c3] ∧ Blk W9 gq 88 #[.string ⟨key.toArray⟩, .int .i64 u_1, .bool u_2, .bool u_3, .string ⟨u_4.toArray⟩, .int .i64 u_5, .string ⟨u_6.toArray⟩, .slice u_7 u_8 u_9, .slice u_a u_b u_c]) W9 ∧ Blk W9 w8.heap.size 57 #[.string ⟨key.toArray⟩, .int .i64 N3] ∧ KwW w gm Y A A3 c3 acc r3 #[.string ⟨nm.toArray⟩, .int .i64 y_1, .bool y_2, .bool y_3, .string ⟨y_4.toArray⟩, .int .i64 y_5, .string ⟨y_6.toArray⟩, .slice y_7 y_8 y_9, .slice y_a y_b y_c] gk [.string ⟨nm.toArray⟩, .int .i64 y_1, .bool y_2, .bool y_3, .string ⟨y_4.toArray⟩, .int .i64 y_5, .string ⟨y_6.toArray⟩, .slice y_7 y_8 y_9, .slice y_a y_b y_c] Ad cd ks W9 ∧ But (fun b => b = gk ∨ Bk Ad b) wa W9 ∧ w8.heap.size ≤ W9.heap.size) ⟨⟨ht.1.alloc _, ht.2.alloc _⟩, Blk.new w8 _ _, HDR.out.next ((Below.refl _ _).alloc (Nat.le_refl _) _), HBD.out.trans (But.of ((Below.refl _ _).alloc (Nat.le_refl _) _)) (fun _ _ k => k), by simp⟩ ?_
            rintro w3 ⟨ht3, hn, hr3, hb3, hs3⟩
            have HN := Lib.hid hn
            clear hn ht
            refine hK.out _ _ ht3 (fun ht => ?_)
            clear hK K ht3
            try simp only [Act.put, List.setIfInBounds_toArray, List.set_cons_zero, List.set_cons_succ]
            obtain ⟨gN, hgN⟩ : ∃ g, g = w8.heap.size := ⟨_, rfl⟩
            rw [← hgN] at HN ⊢
            have hsw : wa.heap.size ≤ w3.heap.size := by have := HSZ8.out; omega
            clear hgN HDR HBD hs3
            have HDR := Lib.hid hr3
            have HBD := Lib.hid hb3
            clear hr3 hb3
            refine wpAnyH_ready (rs := [1]) (by kernel_rfl) (by simp) ?_
            refine AllReadyH.cons (o := ⟨some _, _, _, _, _, _⟩) rfl (fun K hK => ?_) (AllReadyH.nil)
            obtain ⟨z0, z1, z2, z3, z4, z5, z6, z7, z8, z9⟩ := HDR.out.key.ten
            go_simp
            refine hK.out _ _ ht (fun ht => ?_)
            clear hK K z0 z1 z2 z3 z4 z5 z6 z7 z8 z9
            try simp only [Act.put, List.setIfInBounds_toArray, List.set_cons_zero, List.set_cons_succ]
            obtain ⟨flat, hown, hpush⟩ := RowX.push (It := ItKid) (fun h => ItKid.mono h) rfl HDR.out.kids
            obtain ⟨i0, hi0, hz0, hz1, hz2⟩ := infoKid
            have hsz3 : gk + 1 ≤ w3.heap.size := HDR.out.key.lt
            refine wpAnyH_ready (rs := [11]) (by kernel_rfl) (by simp) ?_
            refine AllReadyH.cons (o := ⟨some _, _, _, _, _, _⟩) rfl (fun K hK => ?_) (AllReadyH.nil)
            refine step_append_lies _ rfl _ _ _ rfl (gk + 1) 57 i0 _ 2 24 Tryz.underlying53 hi0 hz0 hz1 hz2 rfl (by omega) (.slice Ad ks.length cd) ks.length flat rfl hown ⟨gN, 0, none⟩ 1 1 (#[.string ⟨key.toArray⟩, .int .i64 N3] : Array Value).toList rfl rfl (World.news_of_block HN.out) (by simp [Value.oneCell']) (by omega) (by unfold maxLen; omega) (by omega) hsz3 _ rfl ?_
            intro g6 cap6 w6 hown6 hgr6 hat6 hlt6
            have hro := row_on (RowX.le HDR.out.kids).2.2 hgr6 hat6
            have HR6 := Lib.hid (hpush (a := (key, N3)) (Rn := fun _ => False) rfl (fun b h => h.elim) (by simp [Value.oneCell']) rfl hown6 hgr6 hat6)
            have hg6 := HDR.out.grow rfl hro.1 hro.2 HR6.out
            rw [show (ks ++ [(key, N3)]).length = ks.length + 1 by simp] at hg6
            have HG6 := Lib.hid hg6
            have HBE := Lib.hid ((HBD.out.trans hro.1 (fun _ _ k => .inr k)).set (p := ⟨gk, 9, none⟩) (.inr (.inl rfl)) (.slice (some ⟨g6, 0, none⟩) (ks.length + 1) cap6))
            have HRO := Lib.hid (show RowOn Ad (some ⟨g6, 0, none⟩) wa from fun b hb => (hro.2 b hb).imp id (fun k => by omega))
            have HKB := Lib.hid (hro.1.blk HDR.out.key (fun k => by have := (HDR.out.kidAt k).1; omega))
            have ht6 : (fun W9 => Blk W9 gm 68 #[.slice A3 N3 c3] ∧ Blk W9 gq 88 #[.string ⟨key.toArray⟩, .int .i64 u_1, .bool u_2, .bool u_3, .string ⟨u_4.toArray⟩, .int .i64 u_5, .string ⟨u_6.toArray⟩, .slice u_7 u_8 u_9, .slice u_a u_b u_c]) w6 := ⟨hro.1.blk ht.1 (fun k => (HDR.out.kidAt k).2.2 (.inl rfl)), hro.1.blk ht.2 HQX.out.2.1⟩
            clear hown6 hgr6 hat6 hown hpush ht hro HR6 HDR HN HBD hg6
            refine hK.out _ _ ht6 (fun ht => ?_)
            clear hK K ht6
            try simp only [Act.put, List.setIfInBounds_toArray, List.set_cons_zero, List.set_cons_succ]
            refine wpAnyH_take (i := 12) (oi := ⟨some _, _, _, _, _, _⟩) (v := (.pointer (some ⟨gk, 9, none⟩))) rfl (by kernel_rfl) (by kernel_rfl) (by kernel_rfl) (fun _ _ _ h => h) (Or.inl ⟨by rfl, ?_⟩) ht ?_
            · intro W9 hSw
              go_simp
            try simp only [Act.put, List.setIfInBounds_toArray, List.set_cons_zero, List.set_cons_succ]
            refine wpAnyH_ready (rs := [13]) (by kernel_rfl) (by simp) ?_
            refine AllReadyH.cons (o := ⟨none, _, _, _, _, _⟩) rfl (fun K hK => ?_) (AllReadyH.nil)
            obtain ⟨z0, z1, z2, z3, z4, z5, z6, z7, z8, z9⟩ := HKB.out.ten
            have zf := HKB.out.frozen 9
            have zl := HKB.out.lt
            go_simp
            refine via10 (K := K) (fun W9 => (fun W9 => Blk W9 gm 68 #[.slice A3 N3 c3] ∧ Blk W9 gq 88 #[.string ⟨key.toArray⟩, .int .i64 u_1, .bool u_2, .bool u_3, .string ⟨u_4.toArray⟩, .int .i64 u_5, .string ⟨u_6.toArray⟩, .slice u_7 u_8 u_9, .slice u_a u_b u_c]) W9 ∧ KwW w gm Y A A3 c3 acc r3 #[.string ⟨nm.toArray⟩, .int .i64 y_1, .bool y_2, .bool y_3, .string ⟨y_4.toArray⟩, .int .i64 y_5, .string ⟨y_6.toArray⟩, .slice y_7 y_8 y_9, .slice y_a y_b y_c] gk [.string ⟨nm.toArray⟩, .int .i64 y_1, .bool y_2, .bool y_3, .string ⟨y_4.toArray⟩, .int .i64 y_5, .string ⟨y_6.toArray⟩, .slice y_7 y_8 y_9, .slice y_a y_b y_c] (some ⟨g6, 0, none⟩) cap6 (ks ++ [(key, N3)]) W9 ∧ But (fun b => b = gk ∨ Bk Ad b) wa W9) ⟨⟨(Below.heap_setCell _ _ _ gm hggk).trans ht.1, (Below.heap_setCell _ _ _ gq HQX.out.1).trans ht.2⟩, HG6.out, HBE.out⟩ ?_
            rintro w7 ⟨ht7, hr7, hb7⟩
            have HKN7 := Lib.hid hr7
            have HBN := Lib.hid hb7
            clear hr7 hb7 HG6 HBE HKB z0 z1 z2 z3 z4 z5 z6 z7 z8 z9 zf zl
            refine hK.out _ _ ht7 (fun ht => ?_)
            clear hK K ht7
            try simp only [Act.put, List.setIfInBounds_toArray, List.set_cons_zero, List.set_cons_succ]
            refine wpAnyH_done (by kernel_rfl) ?_ _
            clear ht
            go_wp2_with fail
            go_meet
            case rel => exact ⟨rfl, _, _, HKN7.out, HRO.out, HBN.out⟩
        case rest =>
          obtain ⟨rfl, Ad2, cd2, hKd, hrd, hbd⟩ := hcut
          obtain ⟨wb, hwb⟩ : ∃ W, W = wc := ⟨_, rfl⟩
          subst hwb
          have HK8 := Lib.hid hKd
          have HOF8 := Lib.hid (HOF7.out.step (Yx' := Yk w Y gk Ad2) (RowOn.refl _ _) (fun b h2 k => by
            rcases k with k | k | k | k
            · exact .inl k
            · exact .inr (.inl k)
            · exact .inr (.inr (.inl k))
            · exact (hrd b k).elim (fun q => .inr (.inr (.inr q))) (fun q => by omega)) hbd.size)
          have hle8 : Cl.le (wa.on Sk) (wb.on Sk) := hbd.on (fun b h => h) (fun b h _ k => (HOF7.out b h).2.2 (.inr (.inr k)))
          have HSM8 := Lib.hid (HSM7.out.keep hle8)
          have HU8 := Lib.hid (In.keep hle8 _ _ HU7.out)
          have HQ8 := Lib.hid (hbd.blk HQ.out (fun k => k.elim HQX.out.1 HQX.out.2.1))
          have HSZ := Lib.hid (show (ks ++ [(key, N3)]).length = j + 1 by rw [List.length_append, HKS3.out]; rfl)
          clear hKd hrd hbd HK7 HOF7 HSM7 HU7 HQ hle8 HBT
          have htk : (text [key]).length ≤ 2000001 := by
            have := text_len 1000000 [key] (fun n hn => by rw [List.mem_singleton.1 hn]; exact hkl2)
            simp at this; omega
          have hpl := HPL.out
          have htp : (text (P ++ [nm])).length ≤ 10000000000000 := by omega
          have HPK := Lib.hid (fun W (hE : Env gm W) (h : Strs W.cell? (some ⟨wb.heap.size, 0, none⟩) [key]) => ptrShow_any [key] (some ⟨wb.heap.size, 0, none⟩) 1 W hE.all.2.2 h (Nat.le_refl _) (by unfold maxLen; omega) (by omega))
          have hcat2 : ∀ W, (Op.stringOp .add ⟨(text (P ++ [nm])).toArray⟩ ⟨(text [key]).toArray⟩).run Tryz.prog W = .ok (.string ⟨(text (P ++ [nm] ++ [key])).toArray⟩) W := fun W => by rw [text_append (P ++ [nm])]; exact cat_mk W _ _ (by omega)
          have HNL := Lib.hid (show (text (if sg = true then P ++ [nm] else P ++ [nm] ++ [key])).length + 5000000 * kv.size ≤ 10000000000000 by
            have h5 : (text (P ++ [nm] ++ [key])).length = (text (P ++ [nm])).length + (text [key]).length := by rw [text_append (P ++ [nm]), List.length_append]
            split
            · omega
            · omega)
          clear htk hpl htp
          obtain ⟨NX, hNX⟩ : ∃ NX, NX = if sg = true then P ++ [nm] else P ++ [nm] ++ [key] := ⟨_, rfl⟩
          rw [← hNX] at HNL HNX2
          have HNXE := Lib.hid hNX
          clear hNX
          obtain ⟨a0, a1, a2, a3, a4, a5, a6, a7, a8⟩ := HK8.out.box.nine
          have hal := HK8.out.box.lt
          go_wp2_with fail
          refine (HSG.out _).mono ?_
          rintro e6 w6 ⟨rfl, rfl⟩
          clear a0 a1 a2 a3 a4 a5 a6 a7 a8 hal
          go_upto_if 72 with (fail)
          obtain ⟨ns, hns⟩ : ∃ ns, (!sg) = ns := ⟨_, rfl⟩
          rw [hns]
          have HNS := Lib.hid hns
          clear hns
          obtain ⟨q0, q1, q2, q3, q4, q5, q6, q7, q8⟩ := HQ8.out.nine
          have hql := HQ8.out.lt
          go_cut [13] from 72 to 78 (fun v13 wc => v13 = .string ⟨(text NX).toArray⟩ ∧ Below w6.heap.size w6 wc)
          case first =>
            go_wp2_with fail
            · have hsg : ns = true := by assumption
              have hsgn : Hid (sg = false) := Lib.hid (by have := HNS.out; rw [hsg] at this; simpa using this)
              refine (HPK.out _ ((HE.out.but hgm HRA.out HK8.out.but).on (Nat.lt_of_lt_of_le hgm HK8.out.but.size) ((Below.refl _ _).alloc (Nat.le_refl _) _)) (strs_one10 w6 _ key)).mono ?_
              rintro e7 w7 ⟨rfl, hb7⟩
              have HB7 := Lib.hid (((Below.refl w6.heap.size w6).alloc (Nat.le_refl _) (.cells #[.string ⟨key.toArray⟩] 9)).trans (hb7.mono (by simp)))
              clear hb7
              go_wp2_with fail
              go_meet
              case rel => exact ⟨by rw [HNXE.out, hsgn.out, if_neg (by decide)]; simp, HB7.out⟩
            · have hsg : ns = false := by assumption
              have hsgn : Hid (sg = true) := Lib.hid (by have := HNS.out; rw [hsg] at this; simpa using this)
              go_meet
              case rel => exact ⟨by rw [HNXE.out, if_pos hsgn.out], Below.refl _ _⟩
          case rest =>
            obtain ⟨rfl, hbw⟩ := hcut
            obtain ⟨wd, hwd⟩ : ∃ W, W = wc := ⟨_, rfl⟩
            subst hwd
            have HK9 := Lib.hid (HK8.out.next hbw)
            have HOF9 := Lib.hid (HOF8.out.step (RowOn.refl _ _) (fun _ _ k => k) hbw.size)
            have hle9 : Cl.le (w6.on Sk) (wd.on Sk) := on_keep (fun b h _ => h) (fun b h _ => hbw.block b (HOF8.out b h).1)
            have HSM9 := Lib.hid (HSM8.out.keep hle9)
            have HU9 := Lib.hid (In.keep hle9 _ _ HU8.out)
            have HQ9 := Lib.hid (HQ8.out.on hbw)
            clear HK8 HOF8 hle9 HSM8 HU8 HQ8 hbw HPK hcat2 q0 q1 q2 q3 q4 q5 q6 q7 q8 hql
            obtain ⟨q0, q1, q2, q3, q4, q5, q6, q7, q8⟩ := HQ9.out.nine
            have hql := HQ9.out.lt
            have HCALL := Lib.hid (HIH.out kv (by omega) ⟨hq3, by omega, hksl⟩ gm _ A3 c3 (acc ++ r3.map Cm.Wn.ok) NX wd (.agg #[.int .i64 u_1, .bool u_2, .bool u_3, .string ⟨u_4.toArray⟩, .int .i64 u_5, .string ⟨u_6.toArray⟩, .slice u_7 u_8 u_9, .slice u_a u_b u_c]) Sk (HE.out.but hgm HRA.out HK9.out.but) HK9.out.maker (fun b hb => HOF9.out b hb) HU9.out HNL.out)
            rw [HN3.out] at HCALL
            go_wp2_with fail
            refine HCALL.out.mono ?_
            rintro e8 w9 ⟨hbt, ⟨a, A4, c4, hra, rfl, hmk, hron⟩ | ⟨c, qq, b, hra, hc0, rfl, hbl, hsp⟩⟩
            · have HK10 := Lib.hid (HK9.out.call hbt hron hmk)
              have HOF10 := Lib.hid (HOF9.out.step hron (fun _ _ k => k) hbt.size)
              have HSM10 := Lib.hid (HSM9.out.keep (hbt.on (S := Sk) (S' := Sk) (fun b h => h) (fun b h _ => (HOF9.out b h).2.1)))
              have HMN := Lib.hid (HNX2.out.1 a (by rw [← HN3L.out]; exact hra))
              rw [← HN3L.out] at HMN
              clear hbt hmk hron hra HK9 HOF9 HSM9 HU9 HQ9 HCALL q0 q1 q2 q3 q4 q5 q6 q7 q8 hql
              go_wp2_with fail
              go_roundw
              case rel => exact ⟨j + 1, A4, c4, r3 ++ a, Ad2, cd2, _, by go_num, by omega, HSZ.out, HK10.out, HSM10.out, HOF10.out, HMN.out⟩
              case measure => simp [intOf]; omega
            · have HBAD := Lib.hid (HKN.out.trans (HNX2.out.2 c qq (by rw [← HN3L.out]; exact hra)))
              have HBT := Lib.hid (HK9.out.but.trans hbt (fun b hb2 k => LX.back HK9.out.on b hb2 k))
              have HRES := Lib.hid (hbt.blk HK9.out.res HK9.out.boxX.2)
              have hbl2 : w.heap.size + 2 ≤ b := by have := HK9.out.res.lt; omega
              have HSP := Lib.hid hsp
              have HC0 := Lib.hid hc0
              unfold spellV
              clear hbt hra HK9 HOF9 HSM9 HU9 HQ9 HCALL hsp hc0 hbl q0 q1 q2 q3 q4 q5 q6 q7 q8 hql
              obtain ⟨z0, z1, z2, z3, z4, z5, z6, z7, z8, z9⟩ := HRES.out.ten
              have zf := HRES.out.frozen
              have zl := HRES.out.lt
              go_wp2_with fail
              refine bodyPost_ret (results_row (l := [_, _, _, _, _, _, _, _, _, _]) rfl _ _ _ rfl (HRES.out.set10 _ _ _ _ _ _ _ _ _ _) Tryz.underlying55 rfl (by kernel_rfl)) rfl ?_
              exact KwW.fail HBT.out HBAD.out HC0.out hbl2 HSP.out
      · obtain rfl : j = kids.length := by omega
        have HEND := Lib.hid (show Cm.keyN (Cm.node f) P acc.length nm v = .ok (ks, r3) by rw [HKN.out, ← HMD.out, List.take_length])
        obtain ⟨z0, z1, z2, z3, z4, z5, z6, z7, z8, z9⟩ := HK.out.res.ten
        have zf := HK.out.res.frozen
        have zl := HK.out.res.lt
        obtain ⟨k0, k1, k2, k3, k4, k5, k6, k7, k8, k9⟩ := HK.out.key.ten
        have kl := HK.out.key.lt
        go_wp2_with fail
        refine bodyPost_ret (results_row (l := [_, _, _, _, _, _, _, _, _, _]) rfl _ _ _ rfl (HK.out.res.set10 _ _ _ _ _ _ _ _ _ _) Tryz.underlying55 rfl (by kernel_rfl)) rfl ?_
        exact HK.out.done (but_set10 _ _ _ _ _ _ _ _ _ _ _ _) HS.out HX.out rfl HEND.out
  · rw [errV_yes hsh0]
    have HBAD := Lib.hid (show Cm.keyN (Cm.node f) P acc.length nm v = .bad sh (P ++ [nm]) by rw [HSH.out]; exact if_neg (by rw [← HSH.out]; exact hsh0))
    have HAS := Lib.hid (fun (W : World) (hE : Env gm W) (h : Blk W w3.heap.size 66 #[.string ⟨(text (P ++ [nm])).toArray⟩, .int .i64 0]) => as_spell sh w3.heap.size (text (P ++ [nm])) W hE.all.2.1 h)
    go_wp2_with fail
    refine (HAS.out _ ((HE.out.on hgm HB3.out).on (Nat.lt_of_lt_of_le hgm HB3.out.size) ((Below.refl _ _).alloc (Nat.le_refl _) _)) (Blk.new w3 _ _)).mono ?_
    rintro e4 w4 ⟨rfl, hsp, hb4, hs4⟩
    have hb34 : Below w3.heap.size w3 w4 := ((Below.refl w3.heap.size w3).alloc (Nat.le_refl _) _).trans hb4
    have HB4 := Lib.hid (HB3.out.trans (hb34.mono HB3.out.size))
    have HZ4 := Lib.hid (HZ3.out.on hb34)
    have HSP := Lib.hid hsp
    have hg3 : w.heap.size + 2 ≤ w3.heap.size := HZ3.out.lt
    clear hsp hb4 hb34 HAS HBOX3 HZ3
    generalize w3.heap.size = g3 at *
    obtain ⟨z0, z1, z2, z3, z4, z5, z6, z7, z8, z9⟩ := HZ4.out.ten
    have zf := HZ4.out.frozen
    have zl := HZ4.out.lt
    go_wp2_with fail
    refine bodyPost_ret (results_row (l := [_, _, _, _, _, _, _, _, _, _]) rfl _ _ _ rfl (HZ4.out.set10 _ _ _ _ _ _ _ _ _ _) Tryz.underlying55 rfl (by kernel_rfl)) rfl ?_
    exact KwW.fail (But.of HB4.out) HBAD.out hsh0 hg3 HSP.out

end Go.Proofs.YtlhinefalkfjaaaGreatDoor

