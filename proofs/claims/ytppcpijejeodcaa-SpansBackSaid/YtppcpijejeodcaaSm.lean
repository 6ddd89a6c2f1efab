/-
  Lengths and distances as symbols with further bits, in numbers.
  Conditions: as each theorem says. Nothing of the program is named here.
-/
import Derived.WalkKit
namespace Go.Proofs.Ytppcpijejeodcaa.Sm

/-- The further bits of the k-th symbol, where groups of e have the same. -/
def fb (e k : Nat) : Nat := k / e - 1
/-- The base of the k-th symbol, from b on. -/
def bas (e b : Nat) : Nat → Nat
  | 0 => b
  | k + 1 => bas e b k + 2 ^ fb e k
def lb (k : Nat) : Nat := if k = 28 then 0 else fb 4 k
def lB (k : Nat) : Nat := if k = 28 then 258 else bas 4 3 k
def dB (k : Nat) : Nat := bas 2 1 k
/-- The last place up to k whose number is not above z, or 0. -/
def sr (f : Nat → Nat) (z : Nat) : Nat → Nat
  | 0 => 0
  | k + 1 => if f (k + 1) ≤ z then k + 1 else sr f z k

theorem lb_le {k : Nat} (h : k ≤ 28) : lb k ≤ 5 := by
  unfold lb fb; split <;> omega
theorem fb2_le {k : Nat} (h : k < 30) : fb 2 k ≤ 13 := by
  unfold fb; omega
theorem lb_low {k : Nat} (h : k < 28) : lb k = fb 4 k := by unfold lb; rw [if_neg (by omega)]
theorem lB_low {k : Nat} (h : k < 28) : lB k = bas 4 3 k := by unfold lB; rw [if_neg (by omega)]
theorem lB_top : lB 28 = 258 := rfl
theorem bas_next (e b k : Nat) : bas e b (k + 1) = bas e b k + 2 ^ fb e k := rfl
theorem bas_lt (e b k : Nat) : bas e b k < bas e b (k + 1) := by
  rw [bas_next]; have := Nat.two_pow_pos (fb e k); omega
theorem bas_mono (e b : Nat) {j k : Nat} (h : j ≤ k) : bas e b j ≤ bas e b k := by
  induction k with
  | zero => have : j = 0 := by omega
            subst this; exact Nat.le_refl _
  | succ k ih =>
    rcases (show j = k + 1 ∨ j ≤ k by omega) with rfl | h2
    · exact Nat.le_refl _
    · exact Nat.le_trans (ih h2) (Nat.le_of_lt (bas_lt e b k))
theorem bas4_end : bas 4 3 28 = 259 := by decide +kernel
theorem bas2_end : bas 2 1 30 = 32769 := by decide +kernel
theorem bas4_le {k : Nat} (h : k ≤ 28) : bas 4 3 k ≤ 259 := by rw [← bas4_end]; exact bas_mono 4 3 h
theorem bas2_le {k : Nat} (h : k ≤ 30) : bas 2 1 k ≤ 32769 := by rw [← bas2_end]; exact bas_mono 2 1 h
theorem lB_le (k : Nat) (h : k ≤ 28) : lB k ≤ 258 := by
  rcases (show k = 28 ∨ k < 28 by omega) with rfl | h2
  · exact Nat.le_refl _
  · rw [lB_low h2]
    have := bas_mono 4 3 (show k + 1 ≤ 28 by omega)
    have h3 := bas_lt 4 3 k
    rw [bas4_end] at this; omega
theorem dB_le (k : Nat) (h : k < 30) : dB k ≤ 32768 := by
  unfold dB
  have := bas_mono 2 1 (show k + 1 ≤ 30 by omega)
  have h3 := bas_lt 2 1 k
  rw [bas2_end] at this; omega

theorem sr_le (f : Nat → Nat) (z : Nat) : ∀ k, sr f z k ≤ k
  | 0 => Nat.le_refl _
  | k + 1 => by
    rw [sr]; split
    · exact Nat.le_refl _
    · exact Nat.le_trans (sr_le f z k) (by omega)
theorem sr_at {f : Nat → Nat} {z k : Nat} (h : f k ≤ z) : sr f z k = k := by
  cases k with
  | zero => rfl
  | succ k => rw [sr, if_pos h]
theorem sr_past {f : Nat → Nat} {z k : Nat} (h : z < f (k + 1)) : sr f z (k + 1) = sr f z k := by
  rw [sr, if_neg (by omega)]
theorem sr_lo {f : Nat → Nat} {z : Nat} (h : f 0 ≤ z) : ∀ k, f (sr f z k) ≤ z
  | 0 => h
  | k + 1 => by
    rw [sr]; split
    · assumption
    · exact sr_lo h k
theorem sr_hi {f : Nat → Nat} {z : Nat} : ∀ k j, sr f z k < j → j ≤ k → z < f j
  | 0, j, h1, h2 => by omega
  | k + 1, j, h1, h2 => by
    rw [sr] at h1; split at h1
    · omega
    · rcases (show j = k + 1 ∨ j ≤ k by omega) with rfl | h3
      · omega
      · exact sr_hi k j h1 h3
theorem sr_eq {f : Nat → Nat} {z s : Nat} (h : f s ≤ z) : ∀ k, s ≤ k → (∀ j, s < j → j ≤ k → z < f j) → sr f z k = s
  | 0, h1, _ => by rw [sr]; omega
  | k + 1, h1, h2 => by
    rcases (show s = k + 1 ∨ s ≤ k by omega) with rfl | h3
    · exact sr_at h
    · rw [sr_past (h2 (k + 1) (by omega) (by omega))]
      exact sr_eq h k h3 (fun j a b => h2 j a (by omega))

/-- A length's place. -/
def lS (n : Nat) : Nat := sr lB n 28
/-- A distance's. -/
def dS (n : Nat) : Nat := sr dB n 29
theorem lS_le (n : Nat) : lS n ≤ 28 := sr_le _ _ _
theorem dS_le (n : Nat) : dS n ≤ 29 := sr_le _ _ _
theorem lS_lo {n : Nat} (h : 3 ≤ n) : lB (lS n) ≤ n := sr_lo (f := lB) (by exact h) 28
theorem dS_lo {n : Nat} (h : 1 ≤ n) : dB (dS n) ≤ n := sr_lo (f := dB) (by exact h) 29
theorem lS_hi {n : Nat} (h : 3 ≤ n) (h2 : n ≤ 258) : n - lB (lS n) < 2 ^ lb (lS n) := by
  have hl := lS_le n
  rcases (show lS n = 28 ∨ lS n = 27 ∨ lS n < 27 by omega) with e | e | e
  · rw [e, lB_top, show lb 28 = 0 from rfl]; omega
  · have := sr_hi (f := lB) (z := n) 28 28 (by show lS n < 28; omega) (by omega)
    rw [lB_top] at this
    rw [e, lB_low (by omega), lb_low (by omega)]
    have h5 : bas 4 3 27 + 2 ^ fb 4 27 = 259 := bas4_end
    have hp := Nat.two_pow_pos (fb 4 27)
    omega
  · have := sr_hi (f := lB) (z := n) 28 (lS n + 1) (by show lS n < lS n + 1; omega) (by omega)
    rw [lB_low (show lS n + 1 < 28 by omega), bas_next] at this
    rw [lB_low (by omega), lb_low (by omega)]
    have hp := Nat.two_pow_pos (fb 4 (lS n))
    omega
theorem dS_hi {n : Nat} (h : 1 ≤ n) (h2 : n ≤ 32768) : n - dB (dS n) < 2 ^ fb 2 (dS n) := by
  have hl := dS_le n
  have hp := Nat.two_pow_pos (fb 2 (dS n))
  rcases (show dS n = 29 ∨ dS n < 29 by omega) with e | e
  · have h5 : bas 2 1 29 + 2 ^ fb 2 29 = 32769 := bas2_end
    rw [e] at hp ⊢; unfold dB; omega
  · have := sr_hi (f := dB) (z := n) 29 (dS n + 1) (by show dS n < dS n + 1; omega) (by omega)
    unfold dB at this ⊢
    rw [bas_next] at this
    omega
theorem lS_of {k v : Nat} (hk : k ≤ 28) (hv : v < 2 ^ lb k) (h : lB k + v ≠ 258) : lS (lB k + v) = k := by
  refine sr_eq (Nat.le_add_right _ _) 28 hk (fun j h1 h2 => ?_)
  have hk2 : k < 28 := by omega
  rw [lb_low hk2] at hv
  rw [lB_low hk2] at h ⊢
  rcases (show j = 28 ∨ j < 28 by omega) with rfl | h3
  · rw [lB_top]
    have := bas_mono 4 3 (show k + 1 ≤ 28 by omega)
    rw [bas_next, bas4_end] at this; omega
  · rw [lB_low h3]
    have := bas_mono 4 3 (show k + 1 ≤ j by omega)
    rw [bas_next] at this; omega
theorem lS_top : lS 258 = 28 := sr_at (Nat.le_refl 258)
theorem dS_of {k v : Nat} (hk : k < 30) (hv : v < 2 ^ fb 2 k) : dS (dB k + v) = k := by
  refine sr_eq (Nat.le_add_right _ _) 29 (by omega) (fun j h1 h2 => ?_)
  have := bas_mono 2 1 (show k + 1 ≤ j by omega)
  rw [bas_next] at this
  unfold dB; omega
theorem lB_sum {k v : Nat} (hk : k ≤ 28) (hv : v < 2 ^ lb k) : 3 ≤ lB k + v ∧ lB k + v ≤ 258 := by
  rcases (show k = 28 ∨ k < 28 by omega) with rfl | h2
  · rw [show lb 28 = 0 from rfl] at hv; rw [lB_top]; omega
  · rw [lb_low h2] at hv
    rw [lB_low h2]
    have h3 := bas_mono 4 3 (show k + 1 ≤ 28 by omega)
    rw [bas_next, bas4_end] at h3
    have h4 := bas_mono 4 3 (show 0 ≤ k by omega)
    have h5 : bas 4 3 0 = 3 := rfl
    omega
theorem dB_sum {k v : Nat} (hk : k < 30) (hv : v < 2 ^ fb 2 k) : 1 ≤ dB k + v ∧ dB k + v ≤ 32768 := by
  unfold dB
  have h3 := bas_mono 2 1 (show k + 1 ≤ 30 by omega)
  rw [bas_next, bas2_end] at h3
  have h4 := bas_mono 2 1 (show 0 ≤ k by omega)
  have h5 : bas 2 1 0 = 1 := rfl
  omega
end Go.Proofs.Ytppcpijejeodcaa.Sm
