/- Plain mathematics of layer 2 (str), third part: the document's way to tell a character. -/
import Derived.Test.YtbcoakonjgakbaaDoorSb
namespace Go.Proofs.YtbcoakonjgakbaaDoor.St

/-- The number of a character by its first bytes: v0 of the first one, and j more. -/
def acc (v0 : Nat) (b : Nat → Nat) : Nat → Nat
  | 0 => v0
  | j + 1 => 64 * acc v0 b j + b (j + 1) - 128

/-- Which bytes begin a character of n bytes, and from which number on such characters are. -/
def Cls (n least base b0 : Nat) : Prop :=
  (n = 2 ∧ least = 128 ∧ base = 192 ∧ 192 ≤ b0 ∧ b0 < 224) ∨ (n = 3 ∧ least = 2048 ∧ base = 224 ∧ 224 ≤ b0 ∧ b0 < 240) ∨ (n = 4 ∧ least = 65536 ∧ base = 240 ∧ 240 ≤ b0 ∧ b0 < 248)

/-- The bytes 1 to j go on with a character. -/
def Conts (b : Nat → Nat) (j : Nat) : Prop := ∀ m, 1 ≤ m → m ≤ j → 128 ≤ b m ∧ b m < 192

theorem Conts.next {b : Nat → Nat} {j : Nat} (h : Conts b j) (hb : 128 ≤ b (j + 1) ∧ b (j + 1) < 192) : Conts b (j + 1) := by
  intro m h1 h2
  by_cases e : m = j + 1
  · subst e; exact hb
  · exact h m h1 (by omega)

def AccBd (j v : Nat) : Prop := (j = 0 → v < 32) ∧ (j ≤ 1 → v < 2048) ∧ (j ≤ 2 → v < 131072) ∧ v < 8388608
theorem AccBd.next {j v d : Nat} (h : AccBd j v) (hj : j < 3) (hd : d < 192) : AccBd (j + 1) (64 * v + d - 128) := by
  unfold AccBd at *; omega

theorem width_low {n b0 b1 b2 b3 : Nat} (h : b0 < 128) (hn : 0 < n) : width n b0 b1 b2 b3 = 1 := by
  unfold width; rw [if_pos h, if_pos hn]
theorem width_none {n b0 b1 b2 b3 : Nat} (h : (128 ≤ b0 ∧ b0 < 192) ∨ 248 ≤ b0) : width n b0 b1 b2 b3 = 0 := by
  unfold width
  repeat' split
  all_goals first | rfl | (exfalso; omega)
theorem width_short {n least base len : Nat} {b : Nat → Nat} (h : Cls n least base (b 0)) (hl : len < n) : width len (b 0) (b 1) (b 2) (b 3) = 0 := by
  unfold Cls at h
  unfold width
  repeat' split
  all_goals first | rfl | (exfalso; omega)
theorem width_cont {n least base len j : Nat} {b : Nat → Nat} (h : Cls n least base (b 0)) (h1 : 1 ≤ j) (h2 : j < n) (hj : b j < 128 ∨ 192 ≤ b j) : width len (b 0) (b 1) (b 2) (b 3) = 0 := by
  have hj' : (j = 1 ∧ (b 1 < 128 ∨ 192 ≤ b 1)) ∨ (j = 2 ∧ (b 2 < 128 ∨ 192 ≤ b 2)) ∨ (j = 3 ∧ (b 3 < 128 ∨ 192 ≤ b 3)) := by
    have : j = 1 ∨ j = 2 ∨ j = 3 := by unfold Cls at h; omega
    rcases this with rfl | rfl | rfl
    · exact .inl ⟨rfl, hj⟩
    · exact .inr (.inl ⟨rfl, hj⟩)
    · exact .inr (.inr ⟨rfl, hj⟩)
  unfold Cls at h
  unfold width
  repeat' split
  all_goals first | rfl | (exfalso; omega)
theorem width_end {n least base len : Nat} {b : Nat → Nat} (h : Cls n least base (b 0)) (hl : n ≤ len) (hc : Conts b (n - 1)) :
    width len (b 0) (b 1) (b 2) (b 3) = if acc (b 0 - base) b (n - 1) < least ∨ 1114111 < acc (b 0 - base) b (n - 1) ∨ (55296 ≤ acc (b 0 - base) b (n - 1) ∧ acc (b 0 - base) b (n - 1) < 57344) then 0 else n := by
  rcases h with ⟨rfl, rfl, rfl, h0, h0'⟩ | ⟨rfl, rfl, rfl, h0, h0'⟩ | ⟨rfl, rfl, rfl, h0, h0'⟩
  · have c1 := hc 1 (by omega) (by omega)
    have e : acc (b 0 - 192) b (2 - 1) = 64 * (b 0 - 192) + b 1 - 128 := rfl
    rw [e]
    unfold width
    repeat' split
    all_goals first | rfl | (exfalso; omega)
  · have c1 := hc 1 (by omega) (by omega)
    have c2 := hc 2 (by omega) (by omega)
    have e : acc (b 0 - 224) b (3 - 1) = 64 * (64 * (b 0 - 224) + b 1 - 128) + b 2 - 128 := rfl
    rw [e]
    unfold width
    repeat' split
    all_goals first | rfl | (exfalso; omega)
  · have c1 := hc 1 (by omega) (by omega)
    have c2 := hc 2 (by omega) (by omega)
    have c3 := hc 3 (by omega) (by omega)
    have e : acc (b 0 - 240) b (4 - 1) = 64 * (64 * (64 * (b 0 - 240) + b 1 - 128) + b 2 - 128) + b 3 - 128 := rfl
    rw [e]
    unfold width
    repeat' split
    all_goals first | rfl | (exfalso; omega)

end Go.Proofs.YtbcoakonjgakbaaDoor.St
