/-
  Canonical codes in numbers: how many lengths of each kind, the sum's parts, the first code of each length, a symbol's code.
  Lengths whose sum is whole: each fifteen bits begin with just one code.
  Lengths and distances as symbols with further bits, in numbers.
  Conditions: as each theorem says.
-/
import Derived.WalkKit
namespace Go.Proofs.YtnkninjdpgpkmaaGreatDoor.Nm

/-- How many of the lengths are n; length 0 is no code. -/
def ct (l : List Nat) (n : Nat) : Nat := if n = 0 then 0 else l.count n
/-- The sum over the lengths below n. -/
def ksum (l : List Nat) : Nat → Nat
  | 0 => 0
  | n + 1 => ksum l n + ct l n * 2 ^ (15 - n)
/-- How many codes have a length below n. -/
def codd (l : List Nat) : Nat → Nat
  | 0 => 0
  | n + 1 => codd l n + ct l n
/-- The first code of length n. -/
def fst (l : List Nat) : Nat → Nat
  | 0 => 0
  | n + 1 => 2 * (fst l n + ct l n)
def nth (l : List Nat) (i : Nat) : Nat := l.getD i 0
/-- The code of symbol i. -/
def code (l : List Nat) (i : Nat) : Nat := fst l (nth l i) + ct (l.take i) (nth l i)

theorem take_next {l : List Nat} {j : Nat} (h : j < l.length) : l.take (j + 1) = l.take j ++ [nth l j] := by
  rw [List.take_add_one, nth, List.getD_eq_getElem?_getD, List.getElem?_eq_getElem h]; rfl
theorem ct_next {l : List Nat} {j : Nat} (h : j < l.length) (n : Nat) : ct (l.take (j + 1)) n = ct (l.take j) n + if n = nth l j ∧ n ≠ 0 then 1 else 0 := by
  rw [take_next h]
  unfold ct
  by_cases hn : n = 0
  · simp [hn]
  · rw [if_neg hn, if_neg hn, List.count_append, List.count_singleton]
    by_cases e : n = nth l j
    · simp [e, e ▸ hn]
    · simp [e, Ne.symm e]
theorem ct_zero (l : List Nat) : ct l 0 = 0 := rfl
theorem ct_nil (n : Nat) : ct [] n = 0 := by unfold ct; split <;> simp
theorem ct_le (l : List Nat) (n : Nat) : ct l n ≤ l.length := by unfold ct; split; · omega
                                                                 · exact List.count_le_length
theorem ksum_nil (n : Nat) : ksum [] n = 0 := by induction n with | zero => rfl | succ n ih => simp [ksum, ih, ct_nil]
theorem codd_nil (n : Nat) : codd [] n = 0 := by induction n with | zero => rfl | succ n ih => simp [codd, ih, ct_nil]
theorem ksum_next {l : List Nat} {j : Nat} (h : j < l.length) (N : Nat) : ksum (l.take (j + 1)) N = ksum (l.take j) N + if 0 < nth l j ∧ nth l j < N then 2 ^ (15 - nth l j) else 0 := by
  induction N with
  | zero => simp [ksum]
  | succ N ih =>
    simp only [ksum, ih, ct_next h]
    by_cases e : N = nth l j
    · subst e
      by_cases h0 : nth l j = 0
      · simp [h0]
      · rw [if_neg (by omega), if_pos ⟨rfl, h0⟩, if_pos (by omega), Nat.add_mul]; omega
    · rw [if_neg (c := N = nth l j ∧ N ≠ 0) (fun hh => e hh.1)]
      by_cases h1 : 0 < nth l j ∧ nth l j < N
      · rw [if_pos h1, if_pos (by omega)]; simp only [Nat.add_zero]; omega
      · rw [if_neg h1, if_neg (by omega)]; simp
theorem codd_next {l : List Nat} {j : Nat} (h : j < l.length) (N : Nat) : codd (l.take (j + 1)) N = codd (l.take j) N + if 0 < nth l j ∧ nth l j < N then 1 else 0 := by
  induction N with
  | zero => simp [codd]
  | succ N ih =>
    simp only [codd, ih, ct_next h]
    by_cases e : N = nth l j
    · subst e
      by_cases h0 : nth l j = 0
      · simp [h0]
      · rw [if_neg (by omega), if_pos ⟨rfl, h0⟩, if_pos (by omega)]; omega
    · rw [if_neg (c := N = nth l j ∧ N ≠ 0) (fun hh => e hh.1)]
      by_cases h1 : 0 < nth l j ∧ nth l j < N
      · rw [if_pos h1, if_pos (by omega)]; omega
      · rw [if_neg h1, if_neg (by omega)]; omega
theorem ct_take_le {l : List Nat} {j : Nat} (n : Nat) : ct (l.take j) n ≤ ct l n := by
  unfold ct; split
  · omega
  · exact (List.take_sublist j l).count_le _
theorem ksum_mono (l : List Nat) {n m : Nat} (h : n ≤ m) : ksum l n ≤ ksum l m := by
  induction m with
  | zero => have : n = 0 := by omega
            subst this; exact Nat.le_refl _
  | succ m ih =>
    rcases Nat.lt_or_ge n (m + 1) with h1 | h1
    · have := ih (by omega); simp only [ksum]; omega
    · have : n = m + 1 := by omega
      subst this; exact Nat.le_refl _
theorem ksum_le (l : List Nat) (n : Nat) : ksum l n ≤ n * (l.length * 32768) := by
  induction n with
  | zero => simp [ksum]
  | succ n ih =>
    simp only [ksum]
    have h1 : ct l n * 2 ^ (15 - n) ≤ l.length * 32768 := Nat.mul_le_mul (ct_le l n) (by
      have := Nat.pow_le_pow_right (show 0 < 2 by omega) (show 15 - n ≤ 15 by omega)
      exact this)
    have : (n + 1) * (l.length * 32768) = n * (l.length * 32768) + l.length * 32768 := Nat.succ_mul _ _
    omega
theorem codd_le (l : List Nat) (n : Nat) : codd l n ≤ n * l.length := by
  induction n with
  | zero => simp [codd]
  | succ n ih =>
    have := ct_le l n
    have : (n + 1) * l.length = n * l.length + l.length := Nat.succ_mul _ _
    simp only [codd]; omega
theorem fst_ksum (l : List Nat) : ∀ n, n ≤ 14 → fst l (n + 1) * 2 ^ (14 - n) = ksum l (n + 1)
  | 0, _ => by simp [fst, ksum, ct]
  | n + 1, h => by
    have ih := fst_ksum l n (by omega)
    have e : 14 - n = (14 - (n + 1)) + 1 := by omega
    have e2 : 15 - (n + 1) = 14 - n := by omega
    rw [ksum, ← ih, fst, e2, ← Nat.add_mul, e, Nat.pow_succ, Nat.mul_comm 2 (_ + _), Nat.mul_assoc, Nat.mul_comm 2]
theorem fst_ksum' (l : List Nat) {n : Nat} (h0 : 0 < n) (h : n ≤ 15) : fst l n * 2 ^ (15 - n) = ksum l n := by
  obtain ⟨m, rfl⟩ : ∃ m, n = m + 1 := ⟨n - 1, by omega⟩
  have := fst_ksum l m (by omega)
  have e : 15 - (m + 1) = 14 - m := by omega
  rw [e]; exact this
theorem fst_le (l : List Nat) : ∀ n, fst l n + ct l n + l.length ≤ 2 ^ (n + 1) * l.length
  | 0 => by simp [fst, ct]; omega
  | n + 1 => by
    have ih := fst_le l n
    have := ct_le l (n + 1)
    have e : 2 ^ (n + 1 + 1) * l.length = 2 * (2 ^ (n + 1) * l.length) := by rw [Nat.pow_succ, Nat.mul_comm (2 ^ (n + 1)) 2, Nat.mul_assoc]
    rw [e, fst]; omega

/-- Where symbol i's codes begin on fifteen bits. -/
def pos (l : List Nat) (i : Nat) : Nat := code l i * 2 ^ (15 - nth l i)
theorem pos_eq {l : List Nat} {i : Nat} (h0 : 0 < nth l i) (h : nth l i ≤ 15) : pos l i = ksum l (nth l i) + ct (l.take i) (nth l i) * 2 ^ (15 - nth l i) := by
  rw [pos, code, Nat.add_mul, fst_ksum' l h0 h]
theorem ct_own {l : List Nat} {i : Nat} (hi : i < l.length) (h0 : 0 < nth l i) : ct (l.take i) (nth l i) + 1 ≤ ct l (nth l i) := by
  have := ct_next hi (nth l i)
  rw [if_pos ⟨rfl, by omega⟩] at this
  rw [← this]; exact ct_take_le _
theorem pos_end {l : List Nat} {i : Nat} (hi : i < l.length) (h0 : 0 < nth l i) (h : nth l i ≤ 15) : pos l i + 2 ^ (15 - nth l i) ≤ ksum l (nth l i + 1) := by
  rw [pos_eq h0 h, ksum]
  have := Nat.mul_le_mul_right (2 ^ (15 - nth l i)) (ct_own hi h0)
  rw [Nat.add_mul] at this; omega
/-- A shorter code, or one of the same length and a smaller symbol, lies ahead. -/
theorem pos_ahead {l : List Nat} {i k : Nat} (hi : i < l.length) (hk : k < l.length) (h0 : 0 < nth l i) (h : nth l k ≤ 15) (o : nth l i < nth l k ∨ nth l i = nth l k ∧ i < k) : pos l i + 2 ^ (15 - nth l i) ≤ pos l k := by
  rcases o with o | ⟨e, o⟩
  · have h1 := pos_end hi h0 (by omega)
    have h2 := ksum_mono l (show nth l i + 1 ≤ nth l k by omega)
    rw [pos_eq (i := k) (by omega) h]; omega
  · rw [pos_eq h0 (by omega), pos_eq (i := k) (by omega) h, ← e]
    have h1 := ct_own (l := l.take k) (i := i) (by rw [List.length_take]; omega)
    have h2 : nth (l.take k) i = nth l i := by simp [nth, List.getD_eq_getElem?_getD, o]
    rw [h2, List.take_take, Nat.min_eq_left (by omega)] at h1
    have := Nat.mul_le_mul_right (2 ^ (15 - nth l i)) (h1 h0)
    rw [Nat.add_mul] at this; omega
theorem code_lt {l : List Nat} {i : Nat} (hi : i < l.length) (h : nth l i ≤ 15) (hk : ksum l 16 ≤ 32768) : code l i < 2 ^ nth l i := by
  by_cases h0 : nth l i = 0
  · simp [code, h0, fst, ct]
  · have h1 := pos_end hi (by omega) h
    have h2 := ksum_mono l (show nth l i + 1 ≤ 16 by omega)
    rw [pos] at h1
    have h3 : code l i * 2 ^ (15 - nth l i) + 2 ^ (15 - nth l i) ≤ 2 ^ nth l i * 2 ^ (15 - nth l i) := by
      rw [← Nat.pow_add, show nth l i + (15 - nth l i) = 15 by omega]; omega
    have h4 : (code l i + 1) * 2 ^ (15 - nth l i) ≤ 2 ^ nth l i * 2 ^ (15 - nth l i) := by rw [Nat.add_mul]; omega
    exact Nat.le_of_mul_le_mul_right h4 (Nat.two_pow_pos _)
/-- Fifteen bits begin with symbol i's code just if they lie in its stretch. -/
theorem hit_iff (l : List Nat) (i v : Nat) : v / 2 ^ (15 - nth l i) = code l i ↔ pos l i ≤ v ∧ v < pos l i + 2 ^ (15 - nth l i) := by
  have hp := Nat.two_pow_pos (15 - nth l i)
  rw [pos]
  constructor
  · intro e
    rw [← e]
    have h1 := Nat.div_mul_le_self v (2 ^ (15 - nth l i))
    have h2 := Nat.lt_div_mul_add (a := v) hp
    omega
  · rintro ⟨h1, h2⟩
    apply Nat.le_antisymm
    · have : v / 2 ^ (15 - nth l i) < code l i + 1 := by
        rw [Nat.div_lt_iff_lt_mul hp, Nat.add_mul]; omega
      omega
    · rw [Nat.le_div_iff_mul_le hp]; exact h1
end Go.Proofs.YtnkninjdpgpkmaaGreatDoor.Nm
namespace Go.Proofs.YtnkninjdpgpkmaaGreatDoor.Nw
open Go.Proofs.YtnkninjdpgpkmaaGreatDoor.Nm

/-- Fifteen bits begin with symbol i's code. -/
def hit (l : List Nat) (v i : Nat) : Prop := 0 < nth l i ∧ v / 2 ^ (15 - nth l i) = code l i
instance (l : List Nat) (v i : Nat) : Decidable (hit l v i) := by unfold hit; infer_instance
/-- With how many codes of the first symbols they begin. -/
def hits (l : List Nat) (v : Nat) : Nat → Nat
  | 0 => 0
  | j + 1 => hits l v j + if hit l v j then 1 else 0
theorem hits_le (l : List Nat) (v j : Nat) : hits l v j ≤ j := by
  induction j with
  | zero => simp [hits]
  | succ j ih => simp only [hits]; split <;> omega

theorem between (l : List Nat) (v N : Nat) : v < ksum l (N + 1) → ∃ m, m ≤ N ∧ ksum l m ≤ v ∧ v < ksum l (m + 1) := by
  induction N with
  | zero =>
    intro h
    refine ⟨0, Nat.le_refl _, ?_, h⟩
    rw [ksum]; exact Nat.zero_le _
  | succ N ih =>
    intro h
    by_cases h1 : v < ksum l (N + 1)
    · obtain ⟨m, hm, r⟩ := ih h1
      exact ⟨m, by omega, r⟩
    · exact ⟨N + 1, Nat.le_refl _, by omega, h⟩
theorem nth_of_rank {l : List Nat} {m r : Nat} : ∀ j, j ≤ l.length → r < ct (l.take j) m → ∃ i, i < j ∧ nth l i = m ∧ ct (l.take i) m = r
  | 0, _, h => by rw [List.take_zero, ct_nil] at h; omega
  | j + 1, hj, h => by
    by_cases h1 : r < ct (l.take j) m
    · obtain ⟨i, hi, e⟩ := nth_of_rank j (by omega) h1
      exact ⟨i, by omega, e⟩
    · rw [ct_next (by omega)] at h
      by_cases h2 : m = nth l j ∧ m ≠ 0
      · rw [if_pos h2] at h
        exact ⟨j, by omega, h2.1.symm, by omega⟩
      · rw [if_neg h2] at h; omega
theorem hit_some {l : List Nat} {v : Nat} (hk : ksum l 16 = 32768) (hv : v < 32768) : ∃ i, i < l.length ∧ hit l v i := by
  obtain ⟨m, hm, h1, h2⟩ := between l v 15 (by rw [hk]; exact hv)
  have hm0 : 0 < m := by
    rcases Nat.eq_zero_or_pos m with rfl | h
    · simp [ksum, ct_zero] at h2
    · exact h
  have hp := Nat.two_pow_pos (15 - m)
  have h3 : v - ksum l m < ct l m * 2 ^ (15 - m) := by rw [ksum] at h2; omega
  have hr : (v - ksum l m) / 2 ^ (15 - m) < ct l m := by rw [Nat.div_lt_iff_lt_mul hp]; exact h3
  obtain ⟨i, hi, e1, e2⟩ := nth_of_rank (l := l) l.length (Nat.le_refl _) (by rw [List.take_length]; exact hr)
  refine ⟨i, hi, by omega, ?_⟩
  rw [hit_iff, pos_eq (by omega) (by omega), e1, e2]
  have d1 := Nat.div_mul_le_self (v - ksum l m) (2 ^ (15 - m))
  have d2 := Nat.lt_div_mul_add (a := v - ksum l m) hp
  omega
theorem hit_one {l : List Nat} {v i k : Nat} (h15 : ∀ i, nth l i ≤ 15) (hi : i < l.length) (hk : k < l.length) (a : hit l v i) (b : hit l v k) : i = k := by
  have a2 := (hit_iff l i v).1 a.2
  have b2 := (hit_iff l k v).1 b.2
  have a0 := a.1
  have b0 := b.1
  apply Decidable.byContradiction
  intro hne
  rcases (show (nth l i < nth l k ∨ (nth l i = nth l k ∧ i < k)) ∨ (nth l k < nth l i ∨ (nth l k = nth l i ∧ k < i)) by omega) with o | o
  · have := pos_ahead hi hk a0 (h15 k) o; omega
  · have := pos_ahead hk hi b0 (h15 i) o; omega
theorem hits_whole {l : List Nat} {v : Nat} (h15 : ∀ i, nth l i ≤ 15) (hk : ksum l 16 = 32768) (hv : v < 32768) : hits l v l.length = 1 := by
  obtain ⟨i, hi, hh⟩ := hit_some hk hv
  have key : ∀ j, j ≤ l.length → hits l v j = if i < j then 1 else 0 := by
    intro j
    induction j with
    | zero => intro _; simp [hits]
    | succ j ih =>
      intro hj
      rw [hits, ih (by omega)]
      by_cases e : j = i
      · subst e
        rw [if_neg (by omega), if_pos hh, if_pos (by omega)]
      · have hn : ¬ hit l v j := fun h => e (hit_one h15 (by omega) hi h hh)
        rw [if_neg hn]
        by_cases h2 : i < j
        · rw [if_pos h2, if_pos (by omega)]
        · rw [if_neg h2, if_neg (by omega)]
  rw [key _ (Nat.le_refl _), if_pos hi]
end Go.Proofs.YtnkninjdpgpkmaaGreatDoor.Nw
namespace Go.Proofs.YtnkninjdpgpkmaaGreatDoor.Sm

/-- The further bits of the k-th symbol, where groups of e have the same. -/
def fb (e k : Nat) : Nat := k / e - 1
/-- The base of the k-th symbol, from b on. -/
def bas (e b : Nat) : Nat → Nat
  | 0 => b
  | k + 1 => bas e b k + 2 ^ fb e k
def lb (k : Nat) : Nat := if k = 28 then 0 else fb 4 k
def lB (k : Nat) : Nat := if k = 28 then 258 else bas 4 3 k
def dB (k : Nat) : Nat := bas 2 1 k
/-- The last place up to k whose number is not above z, or 0. -/
def sr (f : Nat → Nat) (z : Nat) : Nat → Nat
  | 0 => 0
  | k + 1 => if f (k + 1) ≤ z then k + 1 else sr f z k

theorem lb_le {k : Nat} (h : k ≤ 28) : lb k ≤ 5 := by
  unfold lb fb; split <;> omega
theorem fb2_le {k : Nat} (h : k < 30) : fb 2 k ≤ 13 := by
  unfold fb; omega
theorem lb_low {k : Nat} (h : k < 28) : lb k = fb 4 k := by unfold lb; rw [if_neg (by omega)]
theorem lB_low {k : Nat} (h : k < 28) : lB k = bas 4 3 k := by unfold lB; rw [if_neg (by omega)]
theorem lB_top : lB 28 = 258 := rfl
theorem bas_next (e b k : Nat) : bas e b (k + 1) = bas e b k + 2 ^ fb e k := rfl
theorem bas_lt (e b k : Nat) : bas e b k < bas e b (k + 1) := by
  rw [bas_next]; have := Nat.two_pow_pos (fb e k); omega
theorem bas_mono (e b : Nat) {j k : Nat} (h : j ≤ k) : bas e b j ≤ bas e b k := by
  induction k with
  | zero => have : j = 0 := by omega
            subst this; exact Nat.le_refl _
  | succ k ih =>
    rcases (show j = k + 1 ∨ j ≤ k by omega) with rfl | h2
    · exact Nat.le_refl _
    · exact Nat.le_trans (ih h2) (Nat.le_of_lt (bas_lt e b k))
theorem bas4_end : bas 4 3 28 = 259 := by decide +kernel
theorem bas2_end : bas 2 1 30 = 32769 := by decide +kernel
theorem bas4_le {k : Nat} (h : k ≤ 28) : bas 4 3 k ≤ 259 := by rw [← bas4_end]; exact bas_mono 4 3 h
theorem bas2_le {k : Nat} (h : k ≤ 30) : bas 2 1 k ≤ 32769 := by rw [← bas2_end]; exact bas_mono 2 1 h
theorem lB_le (k : Nat) (h : k ≤ 28) : lB k ≤ 258 := by
  rcases (show k = 28 ∨ k < 28 by omega) with rfl | h2
  · exact Nat.le_refl _
  · rw [lB_low h2]
    have := bas_mono 4 3 (show k + 1 ≤ 28 by omega)
    have h3 := bas_lt 4 3 k
    rw [bas4_end] at this; omega
theorem dB_le (k : Nat) (h : k < 30) : dB k ≤ 32768 := by
  unfold dB
  have := bas_mono 2 1 (show k + 1 ≤ 30 by omega)
  have h3 := bas_lt 2 1 k
  rw [bas2_end] at this; omega

theorem sr_le (f : Nat → Nat) (z : Nat) : ∀ k, sr f z k ≤ k
  | 0 => Nat.le_refl _
  | k + 1 => by
    rw [sr]; split
    · exact Nat.le_refl _
    · exact Nat.le_trans (sr_le f z k) (by omega)
theorem sr_at {f : Nat → Nat} {z k : Nat} (h : f k ≤ z) : sr f z k = k := by
  cases k with
  | zero => rfl
  | succ k => rw [sr, if_pos h]
theorem sr_past {f : Nat → Nat} {z k : Nat} (h : z < f (k + 1)) : sr f z (k + 1) = sr f z k := by
  rw [sr, if_neg (by omega)]
theorem sr_lo {f : Nat → Nat} {z : Nat} (h : f 0 ≤ z) : ∀ k, f (sr f z k) ≤ z
  | 0 => h
  | k + 1 => by
    rw [sr]; split
    · assumption
    · exact sr_lo h k
theorem sr_hi {f : Nat → Nat} {z : Nat} : ∀ k j, sr f z k < j → j ≤ k → z < f j
  | 0, j, h1, h2 => by omega
  | k + 1, j, h1, h2 => by
    rw [sr] at h1; split at h1
    · omega
    · rcases (show j = k + 1 ∨ j ≤ k by omega) with rfl | h3
      · omega
      · exact sr_hi k j h1 h3
theorem sr_eq {f : Nat → Nat} {z s : Nat} (h : f s ≤ z) : ∀ k, s ≤ k → (∀ j, s < j → j ≤ k → z < f j) → sr f z k = s
  | 0, h1, _ => by rw [sr]; omega
  | k + 1, h1, h2 => by
    rcases (show s = k + 1 ∨ s ≤ k by omega) with rfl | h3
    · exact sr_at h
    · rw [sr_past (h2 (k + 1) (by omega) (by omega))]
      exact sr_eq h k h3 (fun j a b => h2 j a (by omega))

/-- A length's place. -/
def lS (n : Nat) : Nat := sr lB n 28
/-- A distance's. -/
def dS (n : Nat) : Nat := sr dB n 29
theorem lS_le (n : Nat) : lS n ≤ 28 := sr_le _ _ _
theorem dS_le (n : Nat) : dS n ≤ 29 := sr_le _ _ _
theorem lS_lo {n : Nat} (h : 3 ≤ n) : lB (lS n) ≤ n := sr_lo (f := lB) (by exact h) 28
theorem dS_lo {n : Nat} (h : 1 ≤ n) : dB (dS n) ≤ n := sr_lo (f := dB) (by exact h) 29
theorem lS_hi {n : Nat} (h : 3 ≤ n) (h2 : n ≤ 258) : n - lB (lS n) < 2 ^ lb (lS n) := by
  have hl := lS_le n
  rcases (show lS n = 28 ∨ lS n = 27 ∨ lS n < 27 by omega) with e | e | e
  · rw [e, lB_top, show lb 28 = 0 from rfl]; omega
  · have := sr_hi (f := lB) (z := n) 28 28 (by show lS n < 28; omega) (by omega)
    rw [lB_top] at this
    rw [e, lB_low (by omega), lb_low (by omega)]
    have h5 : bas 4 3 27 + 2 ^ fb 4 27 = 259 := bas4_end
    have hp := Nat.two_pow_pos (fb 4 27)
    omega
  · have := sr_hi (f := lB) (z := n) 28 (lS n + 1) (by show lS n < lS n + 1; omega) (by omega)
    rw [lB_low (show lS n + 1 < 28 by omega), bas_next] at this
    rw [lB_low (by omega), lb_low (by omega)]
    have hp := Nat.two_pow_pos (fb 4 (lS n))
    omega
theorem dS_hi {n : Nat} (h : 1 ≤ n) (h2 : n ≤ 32768) : n - dB (dS n) < 2 ^ fb 2 (dS n) := by
  have hl := dS_le n
  have hp := Nat.two_pow_pos (fb 2 (dS n))
  rcases (show dS n = 29 ∨ dS n < 29 by omega) with e | e
  · have h5 : bas 2 1 29 + 2 ^ fb 2 29 = 32769 := bas2_end
    rw [e] at hp ⊢; unfold dB; omega
  · have := sr_hi (f := dB) (z := n) 29 (dS n + 1) (by show dS n < dS n + 1; omega) (by omega)
    unfold dB at this ⊢
    rw [bas_next] at this
    omega
theorem lS_of {k v : Nat} (hk : k ≤ 28) (hv : v < 2 ^ lb k) (h : lB k + v ≠ 258) : lS (lB k + v) = k := by
  refine sr_eq (Nat.le_add_right _ _) 28 hk (fun j h1 h2 => ?_)
  have hk2 : k < 28 := by omega
  rw [lb_low hk2] at hv
  rw [lB_low hk2] at h ⊢
  rcases (show j = 28 ∨ j < 28 by omega) with rfl | h3
  · rw [lB_top]
    have := bas_mono 4 3 (show k + 1 ≤ 28 by omega)
    rw [bas_next, bas4_end] at this; omega
  · rw [lB_low h3]
    have := bas_mono 4 3 (show k + 1 ≤ j by omega)
    rw [bas_next] at this; omega
theorem lS_top : lS 258 = 28 := sr_at (Nat.le_refl 258)
theorem dS_of {k v : Nat} (hk : k < 30) (hv : v < 2 ^ fb 2 k) : dS (dB k + v) = k := by
  refine sr_eq (Nat.le_add_right _ _) 29 (by omega) (fun j h1 h2 => ?_)
  have := bas_mono 2 1 (show k + 1 ≤ j by omega)
  rw [bas_next] at this
  unfold dB; omega
theorem lB_sum {k v : Nat} (hk : k ≤ 28) (hv : v < 2 ^ lb k) : 3 ≤ lB k + v ∧ lB k + v ≤ 258 := by
  rcases (show k = 28 ∨ k < 28 by omega) with rfl | h2
  · rw [show lb 28 = 0 from rfl] at hv; rw [lB_top]; omega
  · rw [lb_low h2] at hv
    rw [lB_low h2]
    have h3 := bas_mono 4 3 (show k + 1 ≤ 28 by omega)
    rw [bas_next, bas4_end] at h3
    have h4 := bas_mono 4 3 (show 0 ≤ k by omega)
    have h5 : bas 4 3 0 = 3 := rfl
    omega
theorem dB_sum {k v : Nat} (hk : k < 30) (hv : v < 2 ^ fb 2 k) : 1 ≤ dB k + v ∧ dB k + v ≤ 32768 := by
  unfold dB
  have h3 := bas_mono 2 1 (show k + 1 ≤ 30 by omega)
  rw [bas_next, bas2_end] at h3
  have h4 := bas_mono 2 1 (show 0 ≤ k by omega)
  have h5 : bas 2 1 0 = 1 := rfl
  omega
end Go.Proofs.YtnkninjdpgpkmaaGreatDoor.Sm
