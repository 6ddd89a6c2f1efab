/-
  Lengths whose sum is whole: each fifteen bits begin with just one code.
  Conditions: as each theorem says. Nothing of the program is named here.
-/
import Derived.Test.YtgbdecnaamlekaaDoorNm
namespace Go.Proofs.YtgbdecnaamlekaaDoor.Nw
open Go.Proofs.YtgbdecnaamlekaaDoor.Nm

/-- Fifteen bits begin with symbol i's code. -/
def hit (l : List Nat) (v i : Nat) : Prop := 0 < nth l i ∧ v / 2 ^ (15 - nth l i) = code l i
instance (l : List Nat) (v i : Nat) : Decidable (hit l v i) := by unfold hit; infer_instance
/-- With how many codes of the first symbols they begin. -/
def hits (l : List Nat) (v : Nat) : Nat → Nat
  | 0 => 0
  | j + 1 => hits l v j + if hit l v j then 1 else 0
theorem hits_le (l : List Nat) (v j : Nat) : hits l v j ≤ j := by
  induction j with
  | zero => simp [hits]
  | succ j ih => simp only [hits]; split <;> omega

theorem between (l : List Nat) (v N : Nat) : v < ksum l (N + 1) → ∃ m, m ≤ N ∧ ksum l m ≤ v ∧ v < ksum l (m + 1) := by
  induction N with
  | zero =>
    intro h
    refine ⟨0, Nat.le_refl _, ?_, h⟩
    rw [ksum]; exact Nat.zero_le _
  | succ N ih =>
    intro h
    by_cases h1 : v < ksum l (N + 1)
    · obtain ⟨m, hm, r⟩ := ih h1
      exact ⟨m, by omega, r⟩
    · exact ⟨N + 1, Nat.le_refl _, by omega, h⟩
theorem nth_of_rank {l : List Nat} {m r : Nat} : ∀ j, j ≤ l.length → r < ct (l.take j) m → ∃ i, i < j ∧ nth l i = m ∧ ct (l.take i) m = r
  | 0, _, h => by rw [List.take_zero, ct_nil] at h; omega
  | j + 1, hj, h => by
    by_cases h1 : r < ct (l.take j) m
    · obtain ⟨i, hi, e⟩ := nth_of_rank j (by omega) h1
      exact ⟨i, by omega, e⟩
    · rw [ct_next (by omega)] at h
      by_cases h2 : m = nth l j ∧ m ≠ 0
      · rw [if_pos h2] at h
        exact ⟨j, by omega, h2.1.symm, by omega⟩
      · rw [if_neg h2] at h; omega
theorem hit_some {l : List Nat} {v : Nat} (hk : ksum l 16 = 32768) (hv : v < 32768) : ∃ i, i < l.length ∧ hit l v i := by
  obtain ⟨m, hm, h1, h2⟩ := between l v 15 (by rw [hk]; exact hv)
  have hm0 : 0 < m := by
    rcases Nat.eq_zero_or_pos m with rfl | h
    · simp [ksum, ct_zero] at h2
    · exact h
  have hp := Nat.two_pow_pos (15 - m)
  have h3 : v - ksum l m < ct l m * 2 ^ (15 - m) := by rw [ksum] at h2; omega
  have hr : (v - ksum l m) / 2 ^ (15 - m) < ct l m := by rw [Nat.div_lt_iff_lt_mul hp]; exact h3
  obtain ⟨i, hi, e1, e2⟩ := nth_of_rank (l := l) l.length (Nat.le_refl _) (by rw [List.take_length]; exact hr)
  refine ⟨i, hi, by omega, ?_⟩
  rw [hit_iff, pos_eq (by omega) (by omega), e1, e2]
  have d1 := Nat.div_mul_le_self (v - ksum l m) (2 ^ (15 - m))
  have d2 := Nat.lt_div_mul_add (a := v - ksum l m) hp
  omega
theorem hit_one {l : List Nat} {v i k : Nat} (h15 : ∀ i, nth l i ≤ 15) (hi : i < l.length) (hk : k < l.length) (a : hit l v i) (b : hit l v k) : i = k := by
  have a2 := (hit_iff l i v).1 a.2
  have b2 := (hit_iff l k v).1 b.2
  have a0 := a.1
  have b0 := b.1
  apply Decidable.byContradiction
  intro hne
  rcases (show (nth l i < nth l k ∨ (nth l i = nth l k ∧ i < k)) ∨ (nth l k < nth l i ∨ (nth l k = nth l i ∧ k < i)) by omega) with o | o
  · have := pos_ahead hi hk a0 (h15 k) o; omega
  · have := pos_ahead hk hi b0 (h15 i) o; omega
theorem hits_whole {l : List Nat} {v : Nat} (h15 : ∀ i, nth l i ≤ 15) (hk : ksum l 16 = 32768) (hv : v < 32768) : hits l v l.length = 1 := by
  obtain ⟨i, hi, hh⟩ := hit_some hk hv
  have key : ∀ j, j ≤ l.length → hits l v j = if i < j then 1 else 0 := by
    intro j
    induction j with
    | zero => intro _; simp [hits]
    | succ j ih =>
      intro hj
      rw [hits, ih (by omega)]
      by_cases e : j = i
      · subst e
        rw [if_neg (by omega), if_pos hh, if_pos (by omega)]
      · have hn : ¬ hit l v j := fun h => e (hit_one h15 (by omega) hi h hh)
        rw [if_neg hn]
        by_cases h2 : i < j
        · rw [if_pos h2, if_pos (by omega)]
        · rw [if_neg h2, if_neg (by omega)]
  rw [key _ (Nat.le_refl _), if_pos hi]
end Go.Proofs.YtgbdecnaamlekaaDoor.Nw
