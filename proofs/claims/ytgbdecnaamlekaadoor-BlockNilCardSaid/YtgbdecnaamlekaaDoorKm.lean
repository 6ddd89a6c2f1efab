/-
  Heads of blocks, in numbers: what is read from a bit on.
  Conditions: as each theorem says. Nothing of the program is named here.
-/
import Derived.Test.YtgbdecnaamlekaaDoorNh
import Derived.Test.YtgbdecnaamlekaaDoorPm
namespace Go.Proofs.YtgbdecnaamlekaaDoor.Km
open Go.Proofs.YtgbdecnaamlekaaDoor.Bm Go.Proofs.YtgbdecnaamlekaaDoor.Nm Go.Proofs.YtgbdecnaamlekaaDoor.Ni Go.Proofs.YtgbdecnaamlekaaDoor.Ne Go.Proofs.YtgbdecnaamlekaaDoor.Nh Go.Proofs.YtgbdecnaamlekaaDoor.Pm

/-- A head. -/
structure Hd where
  fin : Bool
  kind : Nat
  size : Nat
  lits : List Nat
  dists : List Nat
def Hd.zero : Hd := ⟨false, 0, 0, [], []⟩
/-- The lengths of a fixed block. -/
def fixL : List Nat := List.replicate 144 8 ++ List.replicate 112 9 ++ List.replicate 24 7 ++ List.replicate 8 8
def fixD : List Nat := List.replicate 32 5
/-- The order of the code of lengths. -/
def ords : List Nat := [16, 17, 18, 0, 8, 7, 9, 6, 10, 5, 11, 4, 12, 3, 13, 2, 14, 1, 15]
def ord (i : Nat) : Nat := nth ords i
theorem ord_lt : ∀ i, i < 19 → ord i < 19 := by decide
theorem ords_length : ords.length = 19 := rfl
theorem fixL_length : fixL.length = 288 := by unfold fixL; simp only [List.length_append, List.length_replicate]
theorem fixD_length : fixD.length = 32 := by unfold fixD; rw [List.length_replicate]

/-- A list as ints. -/
def ix (l : List Nat) (i : Nat) : Int := (nth l i : Int)
/-- How many further bits a repeating symbol has, and how often it repeats at the least. -/
def xb (i : Nat) : Nat := if i = 16 then 2 else if i = 17 then 3 else 7
def rp (i : Nat) : Nat := if i ≤ 17 then 3 else 11
/-- What it repeats. -/
def rv (i : Nat) (l : List Nat) : Nat := if i = 16 then nth l (l.length - 1) else 0
theorem rp_pos (i : Nat) : 3 ≤ rp i := by unfold rp; split <;> omega
theorem rp_le (i : Nat) : rp i ≤ 11 := by unfold rp; split <;> omega
theorem xb_le (i : Nat) : xb i ≤ 7 := by
  unfold xb
  by_cases h : i = 16
  · rw [if_pos h]; omega
  · rw [if_neg h]; split <;> omega
theorem xb_pos (i : Nat) : 0 < xb i := by
  unfold xb
  by_cases h : i = 16
  · rw [if_pos h]; omega
  · rw [if_neg h]; split <;> omega

/-- The sequence of lengths, by a code C, from a on, where l was read: what is wrong, the lengths, the place behind. -/
noncomputable def seqM (C : List Nat) (N M n a : Nat) (l : List Nat) : Int × List Nat × Nat :=
  if _h : n ≤ l.length then (0, l, a) else
  match got C N a (M - a) with
  | none => (gotE C N a (M - a), [], 0)
  | some i =>
    if i < 16 then seqM C N M n (a + nth C i) (l ++ [i])
    else if i = 16 ∧ l = [] then (4, [], 0)
    else if M - (a + nth C i) < xb i then (2, [], 0)
    else if n < l.length + rp i + peekN N (a + nth C i) (xb i) then (3, [], 0)
    else seqM C N M n (a + nth C i + xb i) (l ++ List.replicate (rp i + peekN N (a + nth C i) (xb i)) (rv i l))
termination_by n - l.length
decreasing_by
  · simp only [List.length_append, List.length_cons, List.length_nil]; omega
  · simp only [List.length_append, List.length_replicate]; have := rp_pos i; omega

section
variable {C : List Nat} {N M n a : Nat} {l : List Nat} {i : Nat}
theorem seq_done (h : n ≤ l.length) : seqM C N M n a l = (0, l, a) := by rw [seqM, dif_pos h]
theorem seq_none (h : l.length < n) (g : got C N a (M - a) = none) : seqM C N M n a l = (gotE C N a (M - a), [], 0) := by
  rw [seqM, dif_neg (by omega), g]
theorem seq_low (h : l.length < n) (g : got C N a (M - a) = some i) (hi : i < 16) : seqM C N M n a l = seqM C N M n (a + nth C i) (l ++ [i]) := by
  rw [seqM, dif_neg (by omega), g]; simp only; rw [if_pos hi]
theorem seq_form (h : l.length < n) (g : got C N a (M - a) = some i) (hi : i = 16) (hl : l = []) : seqM C N M n a l = (4, [], 0) := by
  rw [seqM, dif_neg (by omega), g]; simp only; rw [if_neg (by omega), if_pos ⟨hi, hl⟩]
theorem seq_short (h : l.length < n) (g : got C N a (M - a) = some i) (hi : 16 ≤ i) (hl : ¬ (i = 16 ∧ l = [])) (hs : M - (a + nth C i) < xb i) : seqM C N M n a l = (2, [], 0) := by
  rw [seqM, dif_neg (by omega), g]; simp only; rw [if_neg (by omega), if_neg hl, if_pos hs]
theorem seq_big (h : l.length < n) (g : got C N a (M - a) = some i) (hi : 16 ≤ i) (hl : ¬ (i = 16 ∧ l = [])) (hs : ¬ M - (a + nth C i) < xb i) (hb : n < l.length + rp i + peekN N (a + nth C i) (xb i)) : seqM C N M n a l = (3, [], 0) := by
  rw [seqM, dif_neg (by omega), g]; simp only; rw [if_neg (by omega), if_neg hl, if_neg hs, if_pos hb]
theorem seq_more (h : l.length < n) (g : got C N a (M - a) = some i) (hi : 16 ≤ i) (hl : ¬ (i = 16 ∧ l = [])) (hs : ¬ M - (a + nth C i) < xb i) (hb : ¬ n < l.length + rp i + peekN N (a + nth C i) (xb i)) :
    seqM C N M n a l = seqM C N M n (a + nth C i + xb i) (l ++ List.replicate (rp i + peekN N (a + nth C i) (xb i)) (rv i l)) := by
  rw [seqM, dif_neg (by omega), g]; simp only; rw [if_neg (by omega), if_neg hl, if_neg hs, if_neg hb]
end

/-- The lengths of the code of lengths when k of them were read. -/
def clM (N a : Nat) : Nat → Nat → Nat
  | 0, _ => 0
  | k + 1, j => if j = ord k then peekN N (a + 3 * k) 3 else clM N a k j
def clI (N a k : Nat) (j : Nat) : Int := (clM N a k j : Int)
theorem clM_le (N a : Nat) : ∀ k j, clM N a k j ≤ 7
  | 0, _ => by simp [clM]
  | k + 1, j => by
    rw [clM]; split
    · have := peekN_lt N (a + 3 * k) 3; omega
    · exact clM_le N a k j
/-- What is wrong of Lits and Dists. -/
def fitsI (n : Nat) (f : Nat → Int) (m : Nat) (g : Nat → Int) : Int := if f 256 = 0 then 21 else if fit n f true ≠ 0 then fit n f true else fit m g true
def fitsM (li di : List Nat) : Int := fitsI li.length (ix li) di.length (ix di)
/-- The rest of a dynamic head, from a on. -/
noncomputable def dynM (N M a : Nat) : Int × (List Nat × List Nat) × Nat :=
  if M - a < 14 then (2, ([], []), 0)
  else if 29 < peekN N a 5 ∨ 29 < peekN N (a + 5) 5 then (3, ([], []), 0)
  else if M - (a + 14) < 3 * (peekN N (a + 10) 4 + 4) then (2, ([], []), 0)
  else if fit 19 (clI N (a + 14) (peekN N (a + 10) 4 + 4)) false ≠ 0 then (fit 19 (clI N (a + 14) (peekN N (a + 10) 4 + 4)) false, ([], []), 0)
  else
    let r := seqM (L 19 (clI N (a + 14) (peekN N (a + 10) 4 + 4))) N M (peekN N a 5 + 257 + (peekN N (a + 5) 5 + 1)) (a + 14 + 3 * (peekN N (a + 10) 4 + 4)) []
    if r.1 ≠ 0 then (r.1, ([], []), 0)
    else if fitsM (r.2.1.take (peekN N a 5 + 257)) (r.2.1.drop (peekN N a 5 + 257)) ≠ 0 then (fitsM (r.2.1.take (peekN N a 5 + 257)) (r.2.1.drop (peekN N a 5 + 257)), ([], []), 0)
    else (0, (r.2.1.take (peekN N a 5 + 257), r.2.1.drop (peekN N a 5 + 257)), r.2.2)
/-- The rest of a stored one. -/
def stoM (N M a : Nat) : Int × Nat × Nat :=
  if M - (a + 7) / 8 * 8 < 32 then (2, 0, 0)
  else if peekN N ((a + 7) / 8 * 8) 16 + peekN N ((a + 7) / 8 * 8 + 16) 16 ≠ 65535 then (6, 0, 0)
  else (0, peekN N ((a + 7) / 8 * 8) 16, (a + 7) / 8 * 8 + 32)
/-- A head, from a on: what is wrong, the head, the place behind. -/
noncomputable def headM (N M a : Nat) : Int × Hd × Nat :=
  if M - a < 3 then (2, .zero, a)
  else if peekN N (a + 1) 2 = 0 then
    (if (stoM N M (a + 3)).1 = 0 then (0, ⟨decide (peekN N a 1 = 1), 0, (stoM N M (a + 3)).2.1, [], []⟩, (stoM N M (a + 3)).2.2) else ((stoM N M (a + 3)).1, .zero, a))
  else if peekN N (a + 1) 2 = 1 then (0, ⟨decide (peekN N a 1 = 1), 1, 0, fixL, fixD⟩, a + 3)
  else if peekN N (a + 1) 2 = 2 then
    (if (dynM N M (a + 3)).1 = 0 then (0, ⟨decide (peekN N a 1 = 1), 2, 0, (dynM N M (a + 3)).2.1.1, (dynM N M (a + 3)).2.1.2⟩, (dynM N M (a + 3)).2.2) else ((dynM N M (a + 3)).1, .zero, a))
  else (11, .zero, a)

section
variable {N M a : Nat}
theorem head_short (h : M - a < 3) : headM N M a = (2, .zero, a) := by unfold headM; rw [if_pos h]
theorem head_sto (h : ¬ M - a < 3) (k : peekN N (a + 1) 2 = 0) (e : (stoM N M (a + 3)).1 = 0) : headM N M a = (0, ⟨decide (peekN N a 1 = 1), 0, (stoM N M (a + 3)).2.1, [], []⟩, (stoM N M (a + 3)).2.2) := by
  unfold headM; rw [if_neg h, if_pos k, if_pos e]
theorem head_sto_no (h : ¬ M - a < 3) (k : peekN N (a + 1) 2 = 0) (e : (stoM N M (a + 3)).1 ≠ 0) : headM N M a = ((stoM N M (a + 3)).1, .zero, a) := by
  unfold headM; rw [if_neg h, if_pos k, if_neg e]
theorem head_fix (h : ¬ M - a < 3) (k : peekN N (a + 1) 2 = 1) : headM N M a = (0, ⟨decide (peekN N a 1 = 1), 1, 0, fixL, fixD⟩, a + 3) := by
  unfold headM; rw [if_neg h, if_neg (by omega), if_pos k]
theorem head_dyn (h : ¬ M - a < 3) (k : peekN N (a + 1) 2 = 2) (e : (dynM N M (a + 3)).1 = 0) : headM N M a = (0, ⟨decide (peekN N a 1 = 1), 2, 0, (dynM N M (a + 3)).2.1.1, (dynM N M (a + 3)).2.1.2⟩, (dynM N M (a + 3)).2.2) := by
  unfold headM; rw [if_neg h, if_neg (by omega), if_neg (by omega), if_pos k, if_pos e]
theorem head_dyn_no (h : ¬ M - a < 3) (k : peekN N (a + 1) 2 = 2) (e : (dynM N M (a + 3)).1 ≠ 0) : headM N M a = ((dynM N M (a + 3)).1, .zero, a) := by
  unfold headM; rw [if_neg h, if_neg (by omega), if_neg (by omega), if_pos k, if_neg e]
theorem head_no (h : ¬ M - a < 3) (k : peekN N (a + 1) 2 = 3) : headM N M a = (11, .zero, a) := by
  unfold headM; rw [if_neg h, if_neg (by omega), if_neg (by omega), if_neg (by omega)]
end

/-- Lengths that were read in a sequence. -/
theorem got_lt {C : List Nat} {N a left i : Nat} (h15 : ∀ i, nth C i ≤ 15) (g : got C N a left = some i) : i < C.length ∧ nth C i ≤ left := by
  rcases got_cases h15 N a left with ⟨k, h1, _, h3, h4⟩ | ⟨_, h4⟩
  · rw [h4] at g; injection g with g; subst g; exact ⟨h1, h3⟩
  · rw [h4] at g; cases g
theorem seq_facts {C : List Nat} {N M n : Nat} (h15 : ∀ i, nth C i ≤ 15) : ∀ (k a : Nat) (l : List Nat), n - l.length ≤ k → l.length ≤ n → (∀ x ∈ l, x < 16) → a ≤ M → (seqM C N M n a l).1 = 0 →
    (seqM C N M n a l).2.1.length = n ∧ (∀ x ∈ (seqM C N M n a l).2.1, x < 16) ∧ a ≤ (seqM C N M n a l).2.2 ∧ (seqM C N M n a l).2.2 ≤ M
  | k, a, l, hk, hl, hx, ha, he => by
    by_cases hd : n ≤ l.length
    · rw [seq_done hd]; exact ⟨by show l.length = n; omega, hx, Nat.le_refl _, ha⟩
    · have hlt : l.length < n := by omega
      obtain ⟨k, rfl⟩ : ∃ k', k = k' + 1 := ⟨k - 1, by omega⟩
      rcases hg : got C N a (M - a) with _ | i
      · rw [seq_none hlt hg] at he
        exfalso
        unfold gotE at he
        rw [hg] at he
        simp only at he
        split at he <;> cases he
      · obtain ⟨h1, h2⟩ := got_lt h15 hg
        by_cases hi : i < 16
        · rw [seq_low hlt hg hi] at he ⊢
          have h := seq_facts h15 k (a + nth C i) (l ++ [i]) (by simp; omega) (by simp; omega) (fun x hx' => by
            rcases List.mem_append.1 hx' with h | h
            · exact hx x h
            · simp at h; omega) (by omega) he
          exact ⟨h.1, h.2.1, by omega, h.2.2.2⟩
        · by_cases hf : i = 16 ∧ l = []
          · rw [seq_form hlt hg hf.1 hf.2] at he; cases he
          · by_cases hs : M - (a + nth C i) < xb i
            · rw [seq_short hlt hg (by omega) hf hs] at he; cases he
            · by_cases hb : n < l.length + rp i + peekN N (a + nth C i) (xb i)
              · rw [seq_big hlt hg (by omega) hf hs hb] at he; cases he
              · rw [seq_more hlt hg (by omega) hf hs hb] at he ⊢
                have hp := rp_pos i
                have hr : rv i l < 16 := by
                  unfold rv; split
                  · by_cases h0 : l = []
                    · subst h0; simp [nth]
                    · have : 0 < l.length := List.length_pos_iff.2 h0
                      have hlt2 : l.length - 1 < l.length := by omega
                      unfold nth
                      rw [List.getD_eq_getElem?_getD, List.getElem?_eq_getElem hlt2]
                      exact hx _ (List.getElem_mem hlt2)
                  · omega
                have hxb : xb i ≤ M - (a + nth C i) := by omega
                have hpos := xb_pos i
                have h := seq_facts h15 k (a + nth C i + xb i) (l ++ List.replicate (rp i + peekN N (a + nth C i) (xb i)) (rv i l))
                  (by rw [List.length_append, List.length_replicate]; omega) (by rw [List.length_append, List.length_replicate]; omega) (fun x hx' => by
                    rcases List.mem_append.1 hx' with h | h
                    · exact hx x h
                    · rw [List.mem_replicate] at h; rw [h.2]; exact hr) (by omega) he
                exact ⟨h.1, h.2.1, by omega, h.2.2.2⟩
end Go.Proofs.YtgbdecnaamlekaaDoor.Km
