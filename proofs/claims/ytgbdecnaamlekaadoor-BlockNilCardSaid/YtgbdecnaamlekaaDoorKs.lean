/-
  A head that was read, in numbers: where the reader stands, and that it can be written.
  Conditions: as each theorem says. Nothing of the program is named here.
-/
import Derived.Test.YtgbdecnaamlekaaDoorKw
namespace Go.Proofs.YtgbdecnaamlekaaDoor.Ks
open Go.Proofs.YtgbdecnaamlekaaDoor.Bm Go.Proofs.YtgbdecnaamlekaaDoor.Nm Go.Proofs.YtgbdecnaamlekaaDoor.Ni Go.Proofs.YtgbdecnaamlekaaDoor.Ne Go.Proofs.YtgbdecnaamlekaaDoor.Nh Go.Proofs.YtgbdecnaamlekaaDoor.Pm Go.Proofs.YtgbdecnaamlekaaDoor.Km Go.Proofs.YtgbdecnaamlekaaDoor.Kw

theorem clI_le (N a k i : Nat) : nth (L 19 (clI N a k)) i ≤ 15 := by
  refine L_le (fun j _ => ?_) i
  have := clM_le N a k j
  unfold clI
  omega
theorem dyn_facts {N M a : Nat} (h : (dynM N M a).1 = 0) :
    257 ≤ (dynM N M a).2.1.1.length ∧ (dynM N M a).2.1.1.length ≤ 286 ∧ 1 ≤ (dynM N M a).2.1.2.length ∧ (dynM N M a).2.1.2.length ≤ 30 ∧ (∀ x ∈ (dynM N M a).2.1.1 ++ (dynM N M a).2.1.2, x < 16) ∧ fitsM (dynM N M a).2.1.1 (dynM N M a).2.1.2 = 0
      ∧ a ≤ (dynM N M a).2.2 ∧ (dynM N M a).2.2 ≤ M := by
  obtain ⟨hl, ehl⟩ : ∃ hl, hl = peekN N a 5 := ⟨_, rfl⟩
  obtain ⟨hd, ehd⟩ : ∃ hd, hd = peekN N (a + 5) 5 := ⟨_, rfl⟩
  obtain ⟨hc, ehc⟩ : ∃ hc, hc = peekN N (a + 10) 4 := ⟨_, rfl⟩
  obtain ⟨r, er⟩ : ∃ r, r = seqM (L 19 (clI N (a + 14) (hc + 4))) N M (hl + 257 + (hd + 1)) (a + 14 + 3 * (hc + 4)) [] := ⟨_, rfl⟩
  unfold dynM at h ⊢
  rw [← ehl, ← ehd, ← ehc, ← er] at h ⊢
  by_cases c1 : M - a < 14
  · rw [if_pos c1] at h; cases h
  by_cases c2 : 29 < hl ∨ 29 < hd
  · rw [if_neg c1, if_pos c2] at h; cases h
  by_cases c3 : M - (a + 14) < 3 * (hc + 4)
  · rw [if_neg c1, if_neg c2, if_pos c3] at h; cases h
  by_cases c4 : fit 19 (clI N (a + 14) (hc + 4)) false ≠ 0
  · rw [if_neg c1, if_neg c2, if_neg c3, if_pos c4] at h; exact absurd h c4
  rw [if_neg c1, if_neg c2, if_neg c3, if_neg c4] at h ⊢
  simp only at h ⊢
  by_cases c5 : r.1 ≠ 0
  · rw [if_pos c5] at h; exact absurd h c5
  by_cases c6 : fitsM (r.2.1.take (hl + 257)) (r.2.1.drop (hl + 257)) ≠ 0
  · rw [if_neg c5, if_pos c6] at h; exact absurd h c6
  rw [if_neg c5, if_neg c6] at h ⊢
  simp only
  have hf := seq_facts (C := L 19 (clI N (a + 14) (hc + 4))) (N := N) (M := M) (n := hl + 257 + (hd + 1)) (clI_le N (a + 14) (hc + 4)) _ (a + 14 + 3 * (hc + 4)) [] (Nat.le_refl _) (by simp) (fun x hx => by cases hx) (by omega) (by rw [← er]; omega)
  rw [← er] at hf
  obtain ⟨f1, f2, f3, f4⟩ := hf
  rw [List.length_take, List.length_drop, f1]
  refine ⟨by omega, by omega, by omega, by omega, ?_, by omega, by omega, f4⟩
  rw [List.take_append_drop]; exact f2
theorem sto_facts {N M a : Nat} (h : (stoM N M a).1 = 0) : (stoM N M a).2.1 ≤ 65535 ∧ a ≤ (stoM N M a).2.2 ∧ (stoM N M a).2.2 ≤ M := by
  unfold stoM at h ⊢
  by_cases c1 : M - (a + 7) / 8 * 8 < 32
  · rw [if_pos c1] at h; cases h
  by_cases c2 : peekN N ((a + 7) / 8 * 8) 16 + peekN N ((a + 7) / 8 * 8 + 16) 16 ≠ 65535
  · rw [if_neg c1, if_pos c2] at h; cases h
  rw [if_neg c1, if_neg c2]
  simp only
  exact ⟨by omega, by omega, by omega⟩
/-- A head that was read. -/
theorem head_facts {N M a : Nat} (h : (headM N M a).1 = 0) : okH (headM N M a).2.1 ∧ a + 3 ≤ (headM N M a).2.2 ∧ (headM N M a).2.2 ≤ M := by
  have hk := peekN_lt N (a + 1) 2
  by_cases c1 : M - a < 3
  · rw [head_short c1] at h; cases h
  rcases (show peekN N (a + 1) 2 = 0 ∨ peekN N (a + 1) 2 = 1 ∨ peekN N (a + 1) 2 = 2 ∨ peekN N (a + 1) 2 = 3 by omega) with k | k | k | k
  · by_cases e : (stoM N M (a + 3)).1 = 0
    · rw [head_sto c1 k e]
      obtain ⟨s1, s2, s3⟩ := sto_facts e
      exact ⟨⟨Nat.zero_le _, fun _ => s1, fun e => absurd e (by show ¬ 0 = 2; omega)⟩, s2, s3⟩
    · rw [head_sto_no c1 k e] at h; exact absurd h e
  · rw [head_fix c1 k]
    exact ⟨⟨by show 1 ≤ 2; omega, fun e => absurd e (by show ¬ 1 = 0; omega), fun e => absurd e (by show ¬ 1 = 2; omega)⟩, Nat.le_refl _, by show a + 3 ≤ M; omega⟩
  · by_cases e : (dynM N M (a + 3)).1 = 0
    · rw [head_dyn c1 k e]
      obtain ⟨f1, f2, f3, f4, f5, f6, f7, f8⟩ := dyn_facts e
      exact ⟨⟨Nat.le_refl _, fun e => absurd e (by show ¬ 2 = 0; omega), fun _ => ⟨f1, f2, f3, f4, f5, f6⟩⟩, f7, f8⟩
    · rw [head_dyn_no c1 k e] at h; exact absurd h e
  · rw [head_no c1 k] at h; cases h
/-- With an error it is nothing, and the reader stands where it stood. -/
theorem head_err {N M a : Nat} (h : (headM N M a).1 ≠ 0) : (headM N M a).2.1 = Hd.zero ∧ (headM N M a).2.2 = a := by
  have hk := peekN_lt N (a + 1) 2
  by_cases c1 : M - a < 3
  · rw [head_short c1]; exact ⟨rfl, rfl⟩
  rcases (show peekN N (a + 1) 2 = 0 ∨ peekN N (a + 1) 2 = 1 ∨ peekN N (a + 1) 2 = 2 ∨ peekN N (a + 1) 2 = 3 by omega) with k | k | k | k
  · by_cases e : (stoM N M (a + 3)).1 = 0
    · rw [head_sto c1 k e] at h; exact absurd rfl h
    · rw [head_sto_no c1 k e]; exact ⟨rfl, rfl⟩
  · rw [head_fix c1 k] at h; exact absurd rfl h
  · by_cases e : (dynM N M (a + 3)).1 = 0
    · rw [head_dyn c1 k e] at h; exact absurd rfl h
    · rw [head_dyn_no c1 k e]; exact ⟨rfl, rfl⟩
  · rw [head_no c1 k]; exact ⟨rfl, rfl⟩

/-- What Write answers. -/
def wrM (kind size : Int) (n : Nat) (f : Nat → Int) (m : Nat) (g : Nat → Int) : Int :=
  if kind < 0 ∨ 2 < kind ∨ kind = 0 ∧ (size < 0 ∨ 65535 < size) then 1
  else if kind = 2 then (if n < 257 ∨ 286 < n ∨ m < 1 ∨ 30 < m then 1 else fitsI n f m g) else 0
theorem fit_zero {n : Nat} {f : Nat → Int} {lone : Bool} (h : fit n f lone = 0) : err n f = 0 := by
  by_cases e : err n f = 0
  · exact e
  · rw [fit_err e] at h; exact h
theorem L_mem {n : Nat} {f : Nat → Int} (h : ∀ i, i < n → 0 ≤ f i ∧ f i ≤ 15) : ∀ x ∈ L n f, x < 16 := by
  intro x hx
  unfold L at hx
  rw [List.mem_map] at hx
  obtain ⟨i, hi, rfl⟩ := hx
  have := h i (List.mem_range.1 hi)
  omega
/-- A list and its ints say the same. -/
theorem bad_congr {n : Nat} {f g : Nat → Int} (h : ∀ i, i < n → f i = g i) : bad n f = bad n g := by
  unfold bad
  by_cases c : 320 < n
  · rw [if_pos c, if_pos c]
  · rw [if_neg c, if_neg c]
    have : (∀ i, i < n → 0 ≤ f i ∧ f i ≤ 15) ↔ (∀ i, i < n → 0 ≤ g i ∧ g i ≤ 15) := ⟨fun k i hi => by rw [← h i hi]; exact k i hi, fun k i hi => by rw [h i hi]; exact k i hi⟩
    simp only [this]
theorem L_congr {n : Nat} {f g : Nat → Int} (h : ∀ i, i < n → f i = g i) : L n f = L n g := by
  unfold L
  refine List.map_congr_left (fun i hi => by rw [h i (List.mem_range.1 hi)])
theorem fit_congr {n : Nat} {f g : Nat → Int} (lone : Bool) (h : ∀ i, i < n → f i = g i) : fit n f lone = fit n g lone := by
  have e : err n f = err n g := by unfold err; rw [bad_congr h, L_congr h]
  unfold fit
  rw [e, L_congr h]
/-- A head that Write takes, in lists. -/
theorem wr_ok {kind size : Int} {n m : Nat} {f g : Nat → Int} (fin : Bool) (h : wrM kind size n f m g = 0) : okH ⟨fin, kind.toNat, size.toNat, L n f, L m g⟩ ∧ 0 ≤ kind ∧ kind ≤ 2 ∧ (kind = 0 → 0 ≤ size ∧ size ≤ 65535) ∧ (kind = 2 → (∀ i, i < n → 0 ≤ f i ∧ f i ≤ 15) ∧ (∀ i, i < m → 0 ≤ g i ∧ g i ≤ 15) ∧ 257 ≤ n ∧ n ≤ 286 ∧ 1 ≤ m ∧ m ≤ 30) := by
  unfold wrM at h
  by_cases c1 : kind < 0 ∨ 2 < kind ∨ kind = 0 ∧ (size < 0 ∨ 65535 < size)
  · rw [if_pos c1] at h; cases h
  rw [if_neg c1] at h
  by_cases c2 : kind = 2
  · rw [if_pos c2] at h
    by_cases c3 : n < 257 ∨ 286 < n ∨ m < 1 ∨ 30 < m
    · rw [if_pos c3] at h; cases h
    rw [if_neg c3] at h
    have h0 := h
    unfold fitsI at h
    by_cases c4 : f 256 = 0
    · rw [if_pos c4] at h; cases h
    rw [if_neg c4] at h
    by_cases c5 : fit n f true ≠ 0
    · rw [if_pos c5] at h; exact absurd h c5
    rw [if_neg c5] at h
    obtain ⟨a1, a2, a3⟩ := err_zero (fit_zero (show fit n f true = 0 by omega))
    obtain ⟨b1, b2, b3⟩ := err_zero (fit_zero h)
    refine ⟨⟨by show kind.toNat ≤ 2; omega, fun e => by have : kind.toNat = 0 := e; omega, fun _ => ⟨by show 257 ≤ (L n f).length; rw [L_length]; omega, by show (L n f).length ≤ 286; rw [L_length]; omega, by show 1 ≤ (L m g).length; rw [L_length]; omega, by show (L m g).length ≤ 30; rw [L_length]; omega, ?_, ?_⟩⟩, by omega, by omega, fun e => by omega, fun _ => ⟨a2, b2, by omega, by omega, by omega, by omega⟩⟩
    · intro x hx
      rcases List.mem_append.1 hx with hx | hx
      · exact L_mem a2 x hx
      · exact L_mem b2 x hx
    · show fitsM (L n f) (L m g) = 0
      unfold fitsM
      rw [L_length, L_length]
      have e1 : ∀ i, i < n → ix (L n f) i = f i := fun i hi => (L_eq a2 hi).symm
      have e2 : ∀ i, i < m → ix (L m g) i = g i := fun i hi => (L_eq b2 hi).symm
      unfold fitsI
      rw [e1 256 (by omega), fit_congr true e1, fit_congr true e2]
      exact h0
  · exact ⟨⟨by show kind.toNat ≤ 2; omega, fun e => by
      have : kind.toNat = 0 := e
      show size.toNat ≤ 65535
      omega, fun e => by have : kind.toNat = 2 := e; omega⟩, by omega, by omega, fun e => by omega, fun e => absurd e c2⟩
end Go.Proofs.YtgbdecnaamlekaaDoor.Ks
