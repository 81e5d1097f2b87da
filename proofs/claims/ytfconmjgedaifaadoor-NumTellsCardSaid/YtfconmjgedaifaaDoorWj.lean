/- The walks of layer 1 (num), tenth part: NumBack: texts that are long, or no numbers'. -/
import Derived.Test.YtfconmjgedaifaaDoorMj
import Derived.Test.YtfconmjgedaifaaDoorMa
namespace Go.Proofs.YtfconmjgedaifaaDoor
open Go.RowKit

theorem errV_some {k : Int} (h : ¬ k = 0) : errV k = .iface 68 (.int .i64 k) := by unfold errV; rw [if_neg h]

theorem NumAt.new (w : World) (n : Bool) (d : List UInt8) (x : Int) (t : TypeId) : NumAt (w.alloc (.cells #[.bool n, .string ⟨d.toArray⟩, .int .i64 x] t)) w.heap.size n d x := ⟨by simp, by simp, by simp⟩
theorem NumAt.lt {w : World} {b : Nat} {n : Bool} {d : List UInt8} {x : Int} (h : NumAt w b n d x) : b < w.heap.size := World.block_lt_of_cell? w _ h.1
theorem NumAt.alloc {w : World} {b : Nat} {n : Bool} {d : List UInt8} {x : Int} (h : NumAt w b n d x) (o : Obj) : NumAt (w.alloc o) b n d x := h.keep ((Below.refl w.heap.size w).alloc (Nat.le_refl _) o) h.lt
/-- Behind a call. -/
theorem NumAt.on {W w1 : World} {b : Nat} {n : Bool} {d : List UInt8} {x : Int} (h : NumAt W b n d x) (hb : Below W.heap.size W w1) : NumAt w1 b n d x := h.keep hb h.lt

/-- Four numbers in their blocks; what is older than w is as it was. -/
def FourAt (w : World) (A B C X : Nat) (na : Bool) (da : List UInt8) (xa : Int) (nb : Bool) (db : List UInt8) (xb : Int) (nc : Bool) (dc : List UInt8) (xc : Int) (w' : World) : Prop :=
  (w'.cell? ⟨A, 0, none⟩ = some (.bool na) ∧ w'.cell? ⟨A, 1, none⟩ = some (.string ⟨da.toArray⟩) ∧ w'.cell? ⟨A, 2, none⟩ = some (.int .i64 xa)) ∧ (w'.cell? ⟨B, 0, none⟩ = some (.bool nb) ∧ w'.cell? ⟨B, 1, none⟩ = some (.string ⟨db.toArray⟩) ∧ w'.cell? ⟨B, 2, none⟩ = some (.int .i64 xb)) ∧ (w'.cell? ⟨C, 0, none⟩ = some (.bool nc) ∧ w'.cell? ⟨C, 1, none⟩ = some (.string ⟨dc.toArray⟩) ∧ w'.cell? ⟨C, 2, none⟩ = some (.int .i64 xc)) ∧ (w'.cell? ⟨X, 0, none⟩ = some (.bool na) ∧ w'.cell? ⟨X, 1, none⟩ = some (.string ⟨da.toArray⟩) ∧ w'.cell? ⟨X, 2, none⟩ = some (.int .i64 xa)) ∧ Below w.heap.size w w'

theorem FourAt.on {w : World} {A B C X : Nat} {na : Bool} {da : List UInt8} {xa : Int} {nb : Bool} {db : List UInt8} {xb : Int} {nc : Bool} {dc : List UInt8} {xc : Int} {W w1 : World} (h : FourAt w A B C X na da xa nb db xb nc dc xc W) (hb : Below W.heap.size W w1) : FourAt w A B C X na da xa nb db xb nc dc xc w1 :=
  ⟨NumAt.on h.1 hb, NumAt.on h.2.1 hb, NumAt.on h.2.2.1 hb, NumAt.on h.2.2.2.1 hb, h.2.2.2.2.trans (hb.mono h.2.2.2.2.size)⟩

set_option maxRecDepth 100000 in
set_option maxHeartbeats 400000 in
theorem numBack_long (s t u : ByteArray) (k : Int) (w : World) (htab : Tab w) (hs : s.size ≤ 9223372036854775807) (ht : t.size ≤ 9223372036854775807) (hu : u.size ≤ 9223372036854775807) (hl : 300 < s.size ∨ (s.size ≤ 300 ∧ 300 < t.size) ∨ (s.size ≤ 300 ∧ t.size ≤ 300 ∧ 300 < u.size)) :
    Calls Tryd.prog 4 #[.string s, .string t, .string u, .int .i64 k] w fun e w' => e = .returned (.bool true) ∧ Below w.heap.size w w' := by
  have HT := Lib.hid htab
  clear htab
  rcases hl with hl | ⟨hl, hl'⟩ | ⟨hl, hl', hl''⟩
  all_goals
    go_enter Tryd.func4, Tryd.ntmps4
    go_wp2_with fail
    refine (up_any _ HT.out).mono ?_
    rintro e w0 ⟨rfl, hb0⟩
    go_wp2
    go_ret
    exact ⟨rfl, hb0⟩

set_option maxRecDepth 100000 in
set_option maxHeartbeats 4000000 in
theorem numBack_err (s t u : ByteArray) (k : Int) (w : World) (htab : Tab w) (ls : s.size ≤ 300) (lt : t.size ≤ 300) (lu : u.size ≤ 300)
    {na : Bool} {da : List UInt8} {xa ea : Int} {nb : Bool} {db : List UInt8} {xb eb : Int} {nc : Bool} {dc : List UInt8} {xc ec : Int}
    (ha : Nm.parse s.data.toList = (⟨na, da, xa⟩, ea)) (hb : Nm.parse t.data.toList = (⟨nb, db, xb⟩, eb)) (hc : Nm.parse u.data.toList = (⟨nc, dc, xc⟩, ec)) (hev : ¬ ea = 0 ∨ (ea = 0 ∧ ¬ eb = 0) ∨ (ea = 0 ∧ eb = 0 ∧ ¬ ec = 0)) :
    Calls Tryd.prog 4 #[.string s, .string t, .string u, .int .i64 k] w fun e w' => e = .returned (.bool true) ∧ Below w.heap.size w w' := by
  have HT := Lib.hid htab
  clear htab
  have HA := Lib.hid ha
  have HB := Lib.hid hb
  have HC := Lib.hid hc
  clear ha hb hc
  go_enter Tryd.func4, Tryd.ntmps4
  go_wp2_with fail
  refine (up_any _ HT.out).mono ?_
  rintro e w0 ⟨rfl, hb0⟩
  go_wp2_with fail
  refine (parse_any _ _ (by omega)).mono ?_
  rw [HA.out]
  rintro e w1 ⟨rfl, hb1⟩
  go_wp2_with fail
  refine (parse_any _ _ (by omega)).mono ?_
  rw [HB.out]
  rintro e w2 ⟨rfl, hb2⟩
  have hA2 := (NumAt.new w1 na da xa 24).on hb2
  have hz1 := hb1.size
  have hz2 := hb2.size
  simp at hz2
  have k12 : w1.heap.size < w2.heap.size := by omega
  go_wp2_with fail
  refine (parse_any _ _ (by omega)).mono ?_
  rw [HC.out]
  rintro e w3 ⟨rfl, hb3⟩
  have hA3 := (hA2.alloc _).on hb3
  have hB3 := (NumAt.new w2 nb db xb 24).on hb3
  have hz3 := hb3.size
  simp at hz3
  have k13 : w1.heap.size < w3.heap.size := by omega
  have k23 : w2.heap.size < w3.heap.size := by omega
  have h03 : Below w.heap.size w w3 := hb0.trans ((hb1.mono hb0.size).trans ((((Below.refl w.heap.size w1).alloc (by have := hb0.size; omega) _).trans (hb2.mono (by have := hb0.size; simp; omega))).trans (((Below.refl w.heap.size w2).alloc (by have := hb0.size; omega) _).trans (hb3.mono (by have := hb0.size; simp; omega)))))
  clear hb1 hb2 hb3 hA2
  obtain ⟨p0, p1, p2⟩ := hA3
  obtain ⟨q0, q1, q2⟩ := hB3
  rcases hev with hev | ⟨rfl, hev⟩ | ⟨rfl, rfl, hev⟩
  · rw [errV_some hev]
    go_wp2
    go_ret
    exact ⟨rfl, h03.alloc (by have := h03.size; omega) _⟩
  · rw [errV_some hev, show errV 0 = .nilIface from rfl]
    go_wp2
    go_ret
    exact ⟨rfl, h03.alloc (by have := h03.size; omega) _⟩
  · rw [errV_some hev, show errV 0 = .nilIface from rfl]
    go_wp2
    go_ret
    exact ⟨rfl, h03.alloc (by have := h03.size; omega) _⟩

end Go.Proofs.YtfconmjgedaifaaDoor
