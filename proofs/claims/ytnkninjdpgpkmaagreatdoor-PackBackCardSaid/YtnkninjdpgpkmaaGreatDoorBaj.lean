/-
  Heads of blocks, in numbers: what is read from a bit on.
  Heads of blocks that are written, in numbers: what was written is read as it was.
  A head that was read, in numbers: where the reader stands, and that it can be written.
  Blocks that are inflated, in numbers: N is the bytes as one number, M how many bits they have.
  All blocks of a text, in numbers: where they end, that only what a copy may reach counts, and that each block may be the first.
  Parts that are packed, in numbers: what is written of them is inflated as they stand.
  All parts that are packed, in numbers: what is written of them is inflated as they stand, each part a block.
  Conditions: as each theorem says.
-/
import Derived.Test.YtnkninjdpgpkmaaGreatDoorBah
import Derived.Test.YtnkninjdpgpkmaaGreatDoorBai
import Derived.Test.YtnkninjdpgpkmaaGreatDoorBad
namespace Go.Proofs.YtnkninjdpgpkmaaGreatDoor.Km
open Go.Proofs.YtnkninjdpgpkmaaGreatDoor.Bm Go.Proofs.YtnkninjdpgpkmaaGreatDoor.Nm Go.Proofs.YtnkninjdpgpkmaaGreatDoor.Ni Go.Proofs.YtnkninjdpgpkmaaGreatDoor.Ne Go.Proofs.YtnkninjdpgpkmaaGreatDoor.Nh Go.Proofs.YtnkninjdpgpkmaaGreatDoor.Pm

/-- A head. -/
structure Hd where
  fin : Bool
  kind : Nat
  size : Nat
  lits : List Nat
  dists : List Nat
def Hd.zero : Hd := ⟨false, 0, 0, [], []⟩
/-- The lengths of a fixed block. -/
def fixL : List Nat := List.replicate 144 8 ++ List.replicate 112 9 ++ List.replicate 24 7 ++ List.replicate 8 8
def fixD : List Nat := List.replicate 32 5
/-- The order of the code of lengths. -/
def ords : List Nat := [16, 17, 18, 0, 8, 7, 9, 6, 10, 5, 11, 4, 12, 3, 13, 2, 14, 1, 15]
def ord (i : Nat) : Nat := nth ords i
theorem ord_lt : ∀ i, i < 19 → ord i < 19 := by decide
theorem ords_length : ords.length = 19 := rfl
theorem fixL_length : fixL.length = 288 := by unfold fixL; simp only [List.length_append, List.length_replicate]
theorem fixD_length : fixD.length = 32 := by unfold fixD; rw [List.length_replicate]

/-- A list as ints. -/
def ix (l : List Nat) (i : Nat) : Int := (nth l i : Int)
/-- How many further bits a repeating symbol has, and how often it repeats at the least. -/
def xb (i : Nat) : Nat := if i = 16 then 2 else if i = 17 then 3 else 7
def rp (i : Nat) : Nat := if i ≤ 17 then 3 else 11
/-- What it repeats. -/
def rv (i : Nat) (l : List Nat) : Nat := if i = 16 then nth l (l.length - 1) else 0
theorem rp_pos (i : Nat) : 3 ≤ rp i := by unfold rp; split <;> omega
theorem rp_le (i : Nat) : rp i ≤ 11 := by unfold rp; split <;> omega
theorem xb_le (i : Nat) : xb i ≤ 7 := by
  unfold xb
  by_cases h : i = 16
  · rw [if_pos h]; omega
  · rw [if_neg h]; split <;> omega
theorem xb_pos (i : Nat) : 0 < xb i := by
  unfold xb
  by_cases h : i = 16
  · rw [if_pos h]; omega
  · rw [if_neg h]; split <;> omega

/-- The sequence of lengths, by a code C, from a on, where l was read: what is wrong, the lengths, the place behind. -/
noncomputable def seqM (C : List Nat) (N M n a : Nat) (l : List Nat) : Int × List Nat × Nat :=
  if _h : n ≤ l.length then (0, l, a) else
  match got C N a (M - a) with
  | none => (gotE C N a (M - a), [], 0)
  | some i =>
    if i < 16 then seqM C N M n (a + nth C i) (l ++ [i])
    else if i = 16 ∧ l = [] then (4, [], 0)
    else if M - (a + nth C i) < xb i then (2, [], 0)
    else if n < l.length + rp i + peekN N (a + nth C i) (xb i) then (3, [], 0)
    else seqM C N M n (a + nth C i + xb i) (l ++ List.replicate (rp i + peekN N (a + nth C i) (xb i)) (rv i l))
termination_by n - l.length
decreasing_by
  · simp only [List.length_append, List.length_cons, List.length_nil]; omega
  · simp only [List.length_append, List.length_replicate]; have := rp_pos i; omega

section
variable {C : List Nat} {N M n a : Nat} {l : List Nat} {i : Nat}
theorem seq_done (h : n ≤ l.length) : seqM C N M n a l = (0, l, a) := by rw [seqM, dif_pos h]
theorem seq_none (h : l.length < n) (g : got C N a (M - a) = none) : seqM C N M n a l = (gotE C N a (M - a), [], 0) := by
  rw [seqM, dif_neg (by omega), g]
theorem seq_low (h : l.length < n) (g : got C N a (M - a) = some i) (hi : i < 16) : seqM C N M n a l = seqM C N M n (a + nth C i) (l ++ [i]) := by
  rw [seqM, dif_neg (by omega), g]; simp only; rw [if_pos hi]
theorem seq_form (h : l.length < n) (g : got C N a (M - a) = some i) (hi : i = 16) (hl : l = []) : seqM C N M n a l = (4, [], 0) := by
  rw [seqM, dif_neg (by omega), g]; simp only; rw [if_neg (by omega), if_pos ⟨hi, hl⟩]
theorem seq_short (h : l.length < n) (g : got C N a (M - a) = some i) (hi : 16 ≤ i) (hl : ¬ (i = 16 ∧ l = [])) (hs : M - (a + nth C i) < xb i) : seqM C N M n a l = (2, [], 0) := by
  rw [seqM, dif_neg (by omega), g]; simp only; rw [if_neg (by omega), if_neg hl, if_pos hs]
theorem seq_big (h : l.length < n) (g : got C N a (M - a) = some i) (hi : 16 ≤ i) (hl : ¬ (i = 16 ∧ l = [])) (hs : ¬ M - (a + nth C i) < xb i) (hb : n < l.length + rp i + peekN N (a + nth C i) (xb i)) : seqM C N M n a l = (3, [], 0) := by
  rw [seqM, dif_neg (by omega), g]; simp only; rw [if_neg (by omega), if_neg hl, if_neg hs, if_pos hb]
theorem seq_more (h : l.length < n) (g : got C N a (M - a) = some i) (hi : 16 ≤ i) (hl : ¬ (i = 16 ∧ l = [])) (hs : ¬ M - (a + nth C i) < xb i) (hb : ¬ n < l.length + rp i + peekN N (a + nth C i) (xb i)) :
    seqM C N M n a l = seqM C N M n (a + nth C i + xb i) (l ++ List.replicate (rp i + peekN N (a + nth C i) (xb i)) (rv i l)) := by
  rw [seqM, dif_neg (by omega), g]; simp only; rw [if_neg (by omega), if_neg hl, if_neg hs, if_neg hb]
end

/-- The lengths of the code of lengths when k of them were read. -/
def clM (N a : Nat) : Nat → Nat → Nat
  | 0, _ => 0
  | k + 1, j => if j = ord k then peekN N (a + 3 * k) 3 else clM N a k j
def clI (N a k : Nat) (j : Nat) : Int := (clM N a k j : Int)
theorem clM_le (N a : Nat) : ∀ k j, clM N a k j ≤ 7
  | 0, _ => by simp [clM]
  | k + 1, j => by
    rw [clM]; split
    · have := peekN_lt N (a + 3 * k) 3; omega
    · exact clM_le N a k j
/-- What is wrong of Lits and Dists. -/
def fitsI (n : Nat) (f : Nat → Int) (m : Nat) (g : Nat → Int) : Int := if f 256 = 0 then 21 else if fit n f true ≠ 0 then fit n f true else fit m g true
def fitsM (li di : List Nat) : Int := fitsI li.length (ix li) di.length (ix di)
/-- The rest of a dynamic head, from a on. -/
noncomputable def dynM (N M a : Nat) : Int × (List Nat × List Nat) × Nat :=
  if M - a < 14 then (2, ([], []), 0)
  else if 29 < peekN N a 5 ∨ 29 < peekN N (a + 5) 5 then (3, ([], []), 0)
  else if M - (a + 14) < 3 * (peekN N (a + 10) 4 + 4) then (2, ([], []), 0)
  else if fit 19 (clI N (a + 14) (peekN N (a + 10) 4 + 4)) false ≠ 0 then (fit 19 (clI N (a + 14) (peekN N (a + 10) 4 + 4)) false, ([], []), 0)
  else
    let r := seqM (L 19 (clI N (a + 14) (peekN N (a + 10) 4 + 4))) N M (peekN N a 5 + 257 + (peekN N (a + 5) 5 + 1)) (a + 14 + 3 * (peekN N (a + 10) 4 + 4)) []
    if r.1 ≠ 0 then (r.1, ([], []), 0)
    else if fitsM (r.2.1.take (peekN N a 5 + 257)) (r.2.1.drop (peekN N a 5 + 257)) ≠ 0 then (fitsM (r.2.1.take (peekN N a 5 + 257)) (r.2.1.drop (peekN N a 5 + 257)), ([], []), 0)
    else (0, (r.2.1.take (peekN N a 5 + 257), r.2.1.drop (peekN N a 5 + 257)), r.2.2)
/-- The rest of a stored one. -/
def stoM (N M a : Nat) : Int × Nat × Nat :=
  if M - (a + 7) / 8 * 8 < 32 then (2, 0, 0)
  else if peekN N ((a + 7) / 8 * 8) 16 + peekN N ((a + 7) / 8 * 8 + 16) 16 ≠ 65535 then (6, 0, 0)
  else (0, peekN N ((a + 7) / 8 * 8) 16, (a + 7) / 8 * 8 + 32)
/-- A head, from a on: what is wrong, the head, the place behind. -/
noncomputable def headM (N M a : Nat) : Int × Hd × Nat :=
  if M - a < 3 then (2, .zero, a)
  else if peekN N (a + 1) 2 = 0 then
    (if (stoM N M (a + 3)).1 = 0 then (0, ⟨decide (peekN N a 1 = 1), 0, (stoM N M (a + 3)).2.1, [], []⟩, (stoM N M (a + 3)).2.2) else ((stoM N M (a + 3)).1, .zero, a))
  else if peekN N (a + 1) 2 = 1 then (0, ⟨decide (peekN N a 1 = 1), 1, 0, fixL, fixD⟩, a + 3)
  else if peekN N (a + 1) 2 = 2 then
    (if (dynM N M (a + 3)).1 = 0 then (0, ⟨decide (peekN N a 1 = 1), 2, 0, (dynM N M (a + 3)).2.1.1, (dynM N M (a + 3)).2.1.2⟩, (dynM N M (a + 3)).2.2) else ((dynM N M (a + 3)).1, .zero, a))
  else (11, .zero, a)

section
variable {N M a : Nat}
theorem head_short (h : M - a < 3) : headM N M a = (2, .zero, a) := by unfold headM; rw [if_pos h]
theorem head_sto (h : ¬ M - a < 3) (k : peekN N (a + 1) 2 = 0) (e : (stoM N M (a + 3)).1 = 0) : headM N M a = (0, ⟨decide (peekN N a 1 = 1), 0, (stoM N M (a + 3)).2.1, [], []⟩, (stoM N M (a + 3)).2.2) := by
  unfold headM; rw [if_neg h, if_pos k, if_pos e]
theorem head_sto_no (h : ¬ M - a < 3) (k : peekN N (a + 1) 2 = 0) (e : (stoM N M (a + 3)).1 ≠ 0) : headM N M a = ((stoM N M (a + 3)).1, .zero, a) := by
  unfold headM; rw [if_neg h, if_pos k, if_neg e]
theorem head_fix (h : ¬ M - a < 3) (k : peekN N (a + 1) 2 = 1) : headM N M a = (0, ⟨decide (peekN N a 1 = 1), 1, 0, fixL, fixD⟩, a + 3) := by
  unfold headM; rw [if_neg h, if_neg (by omega), if_pos k]
theorem head_dyn (h : ¬ M - a < 3) (k : peekN N (a + 1) 2 = 2) (e : (dynM N M (a + 3)).1 = 0) : headM N M a = (0, ⟨decide (peekN N a 1 = 1), 2, 0, (dynM N M (a + 3)).2.1.1, (dynM N M (a + 3)).2.1.2⟩, (dynM N M (a + 3)).2.2) := by
  unfold headM; rw [if_neg h, if_neg (by omega), if_neg (by omega), if_pos k, if_pos e]
theorem head_dyn_no (h : ¬ M - a < 3) (k : peekN N (a + 1) 2 = 2) (e : (dynM N M (a + 3)).1 ≠ 0) : headM N M a = ((dynM N M (a + 3)).1, .zero, a) := by
  unfold headM; rw [if_neg h, if_neg (by omega), if_neg (by omega), if_pos k, if_neg e]
theorem head_no (h : ¬ M - a < 3) (k : peekN N (a + 1) 2 = 3) : headM N M a = (11, .zero, a) := by
  unfold headM; rw [if_neg h, if_neg (by omega), if_neg (by omega), if_neg (by omega)]
end

/-- Lengths that were read in a sequence. -/
theorem got_lt {C : List Nat} {N a left i : Nat} (h15 : ∀ i, nth C i ≤ 15) (g : got C N a left = some i) : i < C.length ∧ nth C i ≤ left := by
  rcases got_cases h15 N a left with ⟨k, h1, _, h3, h4⟩ | ⟨_, h4⟩
  · rw [h4] at g; injection g with g; subst g; exact ⟨h1, h3⟩
  · rw [h4] at g; cases g
theorem seq_facts {C : List Nat} {N M n : Nat} (h15 : ∀ i, nth C i ≤ 15) : ∀ (k a : Nat) (l : List Nat), n - l.length ≤ k → l.length ≤ n → (∀ x ∈ l, x < 16) → a ≤ M → (seqM C N M n a l).1 = 0 →
    (seqM C N M n a l).2.1.length = n ∧ (∀ x ∈ (seqM C N M n a l).2.1, x < 16) ∧ a ≤ (seqM C N M n a l).2.2 ∧ (seqM C N M n a l).2.2 ≤ M
  | k, a, l, hk, hl, hx, ha, he => by
    by_cases hd : n ≤ l.length
    · rw [seq_done hd]; exact ⟨by show l.length = n; omega, hx, Nat.le_refl _, ha⟩
    · have hlt : l.length < n := by omega
      obtain ⟨k, rfl⟩ : ∃ k', k = k' + 1 := ⟨k - 1, by omega⟩
      rcases hg : got C N a (M - a) with _ | i
      · rw [seq_none hlt hg] at he
        exfalso
        unfold gotE at he
        rw [hg] at he
        simp only at he
        split at he <;> cases he
      · obtain ⟨h1, h2⟩ := got_lt h15 hg
        by_cases hi : i < 16
        · rw [seq_low hlt hg hi] at he ⊢
          have h := seq_facts h15 k (a + nth C i) (l ++ [i]) (by simp; omega) (by simp; omega) (fun x hx' => by
            rcases List.mem_append.1 hx' with h | h
            · exact hx x h
            · simp at h; omega) (by omega) he
          exact ⟨h.1, h.2.1, by omega, h.2.2.2⟩
        · by_cases hf : i = 16 ∧ l = []
          · rw [seq_form hlt hg hf.1 hf.2] at he; cases he
          · by_cases hs : M - (a + nth C i) < xb i
            · rw [seq_short hlt hg (by omega) hf hs] at he; cases he
            · by_cases hb : n < l.length + rp i + peekN N (a + nth C i) (xb i)
              · rw [seq_big hlt hg (by omega) hf hs hb] at he; cases he
              · rw [seq_more hlt hg (by omega) hf hs hb] at he ⊢
                have hp := rp_pos i
                have hr : rv i l < 16 := by
                  unfold rv; split
                  · by_cases h0 : l = []
                    · subst h0; simp [nth]
                    · have : 0 < l.length := List.length_pos_iff.2 h0
                      have hlt2 : l.length - 1 < l.length := by omega
                      unfold nth
                      rw [List.getD_eq_getElem?_getD, List.getElem?_eq_getElem hlt2]
                      exact hx _ (List.getElem_mem hlt2)
                  · omega
                have hxb : xb i ≤ M - (a + nth C i) := by omega
                have hpos := xb_pos i
                have h := seq_facts h15 k (a + nth C i + xb i) (l ++ List.replicate (rp i + peekN N (a + nth C i) (xb i)) (rv i l))
                  (by rw [List.length_append, List.length_replicate]; omega) (by rw [List.length_append, List.length_replicate]; omega) (fun x hx' => by
                    rcases List.mem_append.1 hx' with h | h
                    · exact hx x h
                    · rw [List.mem_replicate] at h; rw [h.2]; exact hr) (by omega) he
                exact ⟨h.1, h.2.1, by omega, h.2.2.2⟩
end Go.Proofs.YtnkninjdpgpkmaaGreatDoor.Km
namespace Go.Proofs.YtnkninjdpgpkmaaGreatDoor.Kw
open Go.Proofs.YtnkninjdpgpkmaaGreatDoor.Bm Go.Proofs.YtnkninjdpgpkmaaGreatDoor.Nm Go.Proofs.YtnkninjdpgpkmaaGreatDoor.Ni Go.Proofs.YtnkninjdpgpkmaaGreatDoor.Ne Go.Proofs.YtnkninjdpgpkmaaGreatDoor.Nh Go.Proofs.YtnkninjdpgpkmaaGreatDoor.Pm Go.Proofs.YtnkninjdpgpkmaaGreatDoor.Km

/-- Numbers with their bits, one behind the other: how many bits, and which. -/
def bl : List (Nat × Nat) → Nat
  | [] => 0
  | x :: r => x.2 + bl r
def bn : List (Nat × Nat) → Nat
  | [] => 0
  | x :: r => x.1 + 2 ^ x.2 * bn r
theorem bl_append : ∀ a b : List (Nat × Nat), bl (a ++ b) = bl a + bl b
  | [], b => by simp [bl]
  | x :: a, b => by rw [List.cons_append, bl, bl, bl_append a b]; omega
theorem bn_append : ∀ a b : List (Nat × Nat), bn (a ++ b) = bn a + 2 ^ bl a * bn b
  | [], b => by simp [bn, bl]
  | x :: a, b => by
    rw [List.cons_append, bn, bn, bl, bn_append a b, Nat.pow_add, Nat.mul_add, Nat.mul_assoc]; omega
def fits2 (l : List (Nat × Nat)) : Prop := ∀ x ∈ l, x.1 < 2 ^ x.2
theorem bn_lt : ∀ l : List (Nat × Nat), fits2 l → bn l < 2 ^ bl l
  | [], _ => by simp [bn, bl]
  | x :: r, h => by
    rw [bn, bl, Nat.pow_add]
    have h1 : x.1 < 2 ^ x.2 := h x (by simp)
    have h2 := bn_lt r (fun y hy => h y (by simp [hy]))
    calc x.1 + 2 ^ x.2 * bn r < 2 ^ x.2 + 2 ^ x.2 * bn r := by omega
      _ = 2 ^ x.2 * (bn r + 1) := by rw [Nat.mul_add]; omega
      _ ≤ 2 ^ x.2 * 2 ^ bl r := Nat.mul_le_mul_left _ h2
/-- A writer that has gone on. -/
theorem bn_snoc (l : List (Nat × Nat)) (v m : Nat) : bn (l ++ [(v, m)]) = bn l + v * 2 ^ bl l := by
  rw [bn_append]; simp [bn, Nat.mul_comm]
theorem bl_snoc (l : List (Nat × Nat)) (v m : Nat) : bl (l ++ [(v, m)]) = bl l + m := by rw [bl_append]; simp [bl]
theorem on_put (N z : Nat) (l : List (Nat × Nat)) (v m : Nat) : N + bn l * 2 ^ z + v * 2 ^ (z + bl l) = N + bn (l ++ [(v, m)]) * 2 ^ z := by
  rw [bn_snoc, Nat.add_mul, Nat.pow_add, Nat.mul_assoc, Nat.mul_comm (2 ^ bl l), Nat.add_assoc]
theorem written {N z : Nat} (h : N < 2 ^ z) {l : List (Nat × Nat)} (hl : fits2 l) : (N + bn l * 2 ^ z) / 2 ^ z % 2 ^ bl l = bn l := by
  rw [Nat.add_mul_div_right _ _ (Nat.two_pow_pos z), Nat.div_eq_of_lt h, Nat.zero_add, Nat.mod_eq_of_lt (bn_lt l hl)]
/-- What stands at the place of one of them. -/
theorem peek_in {N z : Nat} {p q : List (Nat × Nat)} {v m : Nat} (h : N / 2 ^ z % 2 ^ bl (p ++ (v, m) :: q) = bn (p ++ (v, m) :: q)) (hf : fits2 (p ++ (v, m) :: q)) : peekN N (z + bl p) m = v := by
  have hp : fits2 p := fun x hx => hf x (by simp [hx])
  have hv : v < 2 ^ m := hf (v, m) (by simp)
  have hB : bl (p ++ (v, m) :: q) = bl p + m + bl q := by rw [bl_append, bl]; omega
  have h1 : N / 2 ^ z / 2 ^ bl p % 2 ^ m = v := by
    rw [← div_mod (N / 2 ^ z) (bl p) (bl (p ++ (v, m) :: q)) m (by omega), h, bn_append, Nat.add_mul_div_left _ _ (Nat.two_pow_pos _), Nat.div_eq_of_lt (bn_lt p hp), Nat.zero_add, bn, Nat.add_mul_mod_self_left, Nat.mod_eq_of_lt hv]
  unfold peekN
  rw [Nat.pow_add, ← Nat.div_div_eq_div_mul]
  exact h1

/-- The code of lengths that is written. -/
def C4 : List Nat := [4, 4, 4, 4, 4, 4, 4, 4, 4, 4, 4, 4, 4, 4, 4, 4, 0, 0, 0]
def c4 (j : Nat) : Nat := if j < 16 then 4 else 0
theorem C4_nth : ∀ j, j < 19 → nth C4 j = c4 j := by decide
theorem C4_15 (j : Nat) : nth C4 j ≤ 15 := by
  by_cases h : j < 19
  · rw [C4_nth j h]; unfold c4; split <;> omega
  · unfold nth; rw [List.getD_eq_getElem?_getD, List.getElem?_eq_none (by show 19 ≤ j; omega)]; simp
theorem C4_code : ∀ x, x < 16 → code C4 x = x := by decide
theorem C4_sum : ksum C4 16 = 32768 := by decide
theorem got4 {N a left x : Nat} (hx : x < 16) (hp : peekN N a 4 = turnN x 4) (hl : 4 ≤ left) : got C4 N a left = some x := by
  have hn : nth C4 x = 4 := by rw [C4_nth x (by omega)]; unfold c4; rw [if_pos hx]
  refine got_some C4_15 (show x < 19 by omega) ((reads_iff C4_15 N a x).2 ⟨by omega, ?_⟩) (by omega)
  rw [hn, C4_code x hx, ← hi_peek, hp, turnN_turnN, Nat.mod_eq_of_lt hx]
/-- Lengths that stand one behind the other by that code. -/
theorem seq4 {N M n : Nat} : ∀ (r : List Nat) (a : Nat) (l : List Nat), n = l.length + r.length → (∀ x ∈ r, x < 16) → (∀ i x, r[i]? = some x → peekN N (a + 4 * i) 4 = turnN x 4) → a + 4 * r.length ≤ M → seqM C4 N M n a l = (0, l ++ r, a + 4 * r.length)
  | [], a, l, hn, _, _, _ => by rw [seq_done (by simp at hn; omega)]; simp
  | x :: r, a, l, hn, hx, hp, hM => by
    rw [List.length_cons] at hn hM
    have h16 := hx x (by simp)
    have hg := got4 (N := N) (a := a) (left := M - a) h16 (by have := hp 0 x rfl; simpa using this) (by omega)
    have hn4 : nth C4 x = 4 := by rw [C4_nth x (by omega)]; unfold c4; rw [if_pos h16]
    rw [seq_low (by omega) hg h16, hn4]
    rw [seq4 r (a + 4) (l ++ [x]) (by simp; omega) (fun y hy => hx y (by simp [hy])) (fun i y hy => by
      have := hp (i + 1) y (by simpa using hy)
      rw [show a + 4 + 4 * i = a + 4 * (i + 1) by omega]; exact this) (by omega)]
    simp; omega

/-- The lengths of that code as they are read. -/
theorem cl_at {N b : Nat} {v : Nat → Nat} : ∀ n, (∀ k, k < n → peekN N (b + 3 * k) 3 = v (ord k)) → ∀ j, (∃ k, k < n ∧ ord k = j) → clM N b n j = v j
  | 0, _, j, ⟨k, hk, _⟩ => by omega
  | n + 1, h, j, ⟨k, hk, e⟩ => by
    rw [clM]
    by_cases hj : j = ord n
    · rw [if_pos hj, h n (by omega), hj]
    · rw [if_neg hj]
      exact cl_at n (fun k hk => h k (by omega)) j ⟨k, by
        rcases (show k < n ∨ k = n by omega) with h1 | rfl
        · exact h1
        · exact absurd e.symm hj, e⟩
theorem ord_all : ∀ j, j < 19 → ∃ k, k < 19 ∧ ord k = j := by decide
theorem L_C4 {f : Nat → Int} (h : ∀ j, j < 19 → f j = (c4 j : Int)) : L 19 f = C4 := by
  refine List.ext_getElem? (fun j => ?_)
  by_cases hj : j < 19
  · have e : nth (L 19 f) j = nth C4 j := by rw [L_nth hj, h j hj, Int.toNat_natCast, C4_nth j hj]
    unfold nth at e
    rw [List.getD_eq_getElem?_getD, List.getD_eq_getElem?_getD] at e
    rw [List.getElem?_eq_getElem (by rw [L_length]; exact hj), List.getElem?_eq_getElem (show j < C4.length from hj)] at e ⊢
    simp only [Option.getD_some] at e
    rw [e]
  · rw [List.getElem?_eq_none (by rw [L_length]; omega), List.getElem?_eq_none (by show 19 ≤ j; omega)]
theorem fit_C4 {f : Nat → Int} (h : ∀ j, j < 19 → f j = (c4 j : Int)) : fit 19 f false = 0 := by
  have e := L_C4 h
  have hb : bad 19 f = 0 := bad_ok (by omega) (fun i hi => by rw [h i hi]; unfold c4; split <;> omega)
  have he : err 19 f = 0 := err_ok hb (by rw [e, C4_sum]; omega)
  rw [fit_ok he, e, C4_sum]
  unfold fitR
  rw [if_pos rfl]

/-- What is written of a head where the writer stands at z. -/
def padZ (z : Nat) : Nat := (z + 7) / 8 * 8 - z
def outD (li di : List Nat) : List (Nat × Nat) := [(li.length - 257, 5), (di.length - 1, 5), (15, 4)] ++ ords.map (fun o => (c4 o, 3)) ++ (li ++ di).map (fun x => (turnN x 4, 4))
def outM (h : Hd) (z : Nat) : List (Nat × Nat) :=
  [(h.fin.toNat, 1), (h.kind, 2)] ++ (if h.kind = 0 then [(0, padZ (z + 3)), (h.size, 16), (65535 - h.size, 16)] else if h.kind = 1 then [] else outD h.lits h.dists)
/-- A head as it is read again. -/
def back (h : Hd) : Hd := if h.kind = 0 then ⟨h.fin, 0, h.size, [], []⟩ else if h.kind = 1 then ⟨h.fin, 1, 0, fixL, fixD⟩ else ⟨h.fin, 2, 0, h.lits, h.dists⟩
/-- A head that can be written. -/
structure okH (h : Hd) : Prop where
  k : h.kind ≤ 2
  s : h.kind = 0 → h.size ≤ 65535
  l : h.kind = 2 → 257 ≤ h.lits.length ∧ h.lits.length ≤ 286 ∧ 1 ≤ h.dists.length ∧ h.dists.length ≤ 30 ∧ (∀ x ∈ h.lits ++ h.dists, x < 16) ∧ fitsM h.lits h.dists = 0

theorem bl_map (l : List Nat) (g : Nat → Nat) (m : Nat) : bl (l.map (fun x => (g x, m))) = m * l.length := by
  induction l with
  | nil => simp [bl]
  | cons x r ih => rw [List.map_cons, bl, ih, List.length_cons, Nat.mul_add]; omega
theorem split_map {l : List Nat} {i x : Nat} (g : Nat → Nat) (m : Nat) (h : l[i]? = some x) : ∃ q, l.map (fun x => (g x, m)) = (l.take i).map (fun x => (g x, m)) ++ (g x, m) :: q := by
  have hi := (List.getElem?_eq_some_iff.1 h).1
  refine ⟨(l.drop (i + 1)).map (fun x => (g x, m)), ?_⟩
  have e : l = l.take i ++ x :: l.drop (i + 1) := by
    have : l.drop i = x :: l.drop (i + 1) := by rw [List.drop_eq_getElem_cons hi, (List.getElem?_eq_some_iff.1 h).2]
    rw [← this, List.take_append_drop]
  conv => lhs; rw [e]
  rw [List.map_append, List.map_cons]
theorem peek_map {N z : Nat} {p q : List (Nat × Nat)} {l : List Nat} (g : Nat → Nat) (m : Nat) (h : N / 2 ^ z % 2 ^ bl (p ++ l.map (fun x => (g x, m)) ++ q) = bn (p ++ l.map (fun x => (g x, m)) ++ q)) (hf : fits2 (p ++ l.map (fun x => (g x, m)) ++ q)) {i x : Nat} (hx : l[i]? = some x) :
    peekN N (z + (bl p + m * i)) m = g x := by
  obtain ⟨q2, e⟩ := split_map g m hx
  have hi := (List.getElem?_eq_some_iff.1 hx).1
  have e2 : p ++ l.map (fun x => (g x, m)) ++ q = (p ++ (l.take i).map (fun x => (g x, m))) ++ (g x, m) :: (q2 ++ q) := by rw [e]; simp
  rw [e2] at h hf
  have := peek_in h hf
  rw [bl_append, bl_map, List.length_take, Nat.min_eq_left (by omega)] at this
  exact this
theorem outD_fits {li di : List Nat} (h1 : li.length ≤ 286) (h2 : di.length ≤ 30) : fits2 (outD li di) := by
  intro x hx
  unfold outD at hx
  simp only [List.mem_append, List.mem_cons, List.mem_map, List.not_mem_nil, or_false] at hx
  rcases hx with ((rfl | rfl | rfl) | ⟨o, _, rfl⟩) | ⟨y, _, rfl⟩
  · show li.length - 257 < 2 ^ 5; omega
  · show di.length - 1 < 2 ^ 5; omega
  · decide
  · show c4 o < 2 ^ 3; unfold c4; split <;> omega
  · exact turnN_lt _ _
theorem outM_fits {h : Hd} (ok : okH h) (z : Nat) : fits2 (outM h z) := by
  intro x hx
  unfold outM at hx
  rcases List.mem_append.1 hx with hx | hx
  · simp only [List.mem_cons, List.not_mem_nil, or_false] at hx
    rcases hx with rfl | rfl
    · show h.fin.toNat < 2; cases h.fin <;> decide
    · show h.kind < 4; have := ok.k; omega
  · by_cases h0 : h.kind = 0
    · rw [if_pos h0] at hx
      have := ok.s h0
      simp only [List.mem_cons, List.not_mem_nil, or_false] at hx
      rcases hx with rfl | rfl | rfl
      · exact Nat.two_pow_pos _
      · show h.size < 65536; omega
      · show 65535 - h.size < 65536; omega
    · rw [if_neg h0] at hx
      by_cases h1 : h.kind = 1
      · rw [if_pos h1] at hx; cases hx
      · rw [if_neg h1] at hx
        have := ok.l (by have := ok.k; omega)
        exact outD_fits this.2.1 this.2.2.2.1 x hx
theorem outD_bl (li di : List Nat) : bl (outD li di) = 71 + 4 * (li.length + di.length) := by
  unfold outD
  rw [bl_append, bl_append, bl_map, bl_map, ords_length, List.length_append]
  simp only [bl]
theorem fin_peek (b : Bool) {n : Nat} (h : n = b.toNat) : decide (n = 1) = b := by subst h; cases b <;> rfl

/-- What was written of a head is read. -/
theorem head_back {h : Hd} (ok : okH h) {N M z : Nat} (hN : N / 2 ^ z % 2 ^ bl (outM h z) = bn (outM h z)) (hM : z + bl (outM h z) ≤ M) : headM N M z = (0, back h, z + bl (outM h z)) := by
  have hf := outM_fits ok z
  have hk := ok.k
  -- the first two numbers
  have p1 : peekN N z 1 = h.fin.toNat := peek_in (p := []) hN hf
  have p2 : peekN N (z + 1) 2 = h.kind := peek_in (p := [(h.fin.toNat, 1)]) hN hf
  have b2 : 3 ≤ bl (outM h z) := by unfold outM; rw [bl_append]; simp only [bl]; omega
  rcases (show h.kind = 0 ∨ h.kind = 1 ∨ h.kind = 2 by omega) with h0 | h1 | h2
  · have eo : outM h z = [(h.fin.toNat, 1), (h.kind, 2), (0, padZ (z + 3))] ++ (h.size, 16) :: [(65535 - h.size, 16)] := by unfold outM; rw [if_pos h0]; rfl
    have eo2 : outM h z = [(h.fin.toNat, 1), (h.kind, 2), (0, padZ (z + 3)), (h.size, 16)] ++ (65535 - h.size, 16) :: [] := by unfold outM; rw [if_pos h0]; rfl
    have hs := ok.s h0
    have hpad : z + 3 + padZ (z + 3) = (z + 3 + 7) / 8 * 8 := by unfold padZ; omega
    have p3 : peekN N ((z + 3 + 7) / 8 * 8) 16 = h.size := by
      rw [eo] at hN hf
      have := peek_in hN hf
      rw [← hpad, ← this]; congr 1; simp only [bl]; omega
    have p4 : peekN N ((z + 3 + 7) / 8 * 8 + 16) 16 = 65535 - h.size := by
      rw [eo2] at hN hf
      have := peek_in hN hf
      rw [← hpad, ← this]; congr 1; simp only [bl]; omega
    have hb : z + bl (outM h z) = (z + 3 + 7) / 8 * 8 + 32 := by rw [eo, bl_append, ← hpad]; simp only [bl]; omega
    have hst : stoM N M (z + 3) = (0, h.size, z + bl (outM h z)) := by
      unfold stoM
      rw [if_neg (by omega), p3, p4, if_neg (by omega), hb]
    rw [head_sto (by omega) (by rw [p2, h0]) (by rw [hst]), hst, fin_peek h.fin p1]
    unfold back
    rw [if_pos h0]
  · have eo : outM h z = [(h.fin.toNat, 1), (h.kind, 2)] := by unfold outM; rw [if_neg (by omega), if_pos h1]; rfl
    rw [head_fix (by omega) (by rw [p2, h1]), fin_peek h.fin p1]
    unfold back
    rw [if_neg (by omega), if_pos h1, eo]
    rfl
  · obtain ⟨l1, l2, d1, d2, hx, hfm⟩ := ok.l h2
    have eo : outM h z = [(h.fin.toNat, 1), (h.kind, 2)] ++ outD h.lits h.dists := by unfold outM; rw [if_neg (by omega), if_neg (by omega)]
    have hbl : bl (outM h z) = 74 + 4 * (h.lits.length + h.dists.length) := by rw [eo, bl_append, outD_bl]; simp only [bl]; omega
    have q1 : peekN N (z + 3) 5 = h.lits.length - 257 := by
      rw [eo] at hN hf; exact peek_in (p := [(h.fin.toNat, 1), (h.kind, 2)]) hN hf
    have q2 : peekN N (z + 3 + 5) 5 = h.dists.length - 1 := by
      rw [eo] at hN hf; exact peek_in (p := [(h.fin.toNat, 1), (h.kind, 2), (h.lits.length - 257, 5)]) hN hf
    have q3 : peekN N (z + 3 + 10) 4 = 15 := by
      rw [eo] at hN hf; exact peek_in (p := [(h.fin.toNat, 1), (h.kind, 2), (h.lits.length - 257, 5), (h.dists.length - 1, 5)]) hN hf
    have q4 : ∀ k, k < 19 → peekN N (z + 3 + 14 + 3 * k) 3 = c4 (ord k) := by
      intro k hk19
      have e : outM h z = [(h.fin.toNat, 1), (h.kind, 2), (h.lits.length - 257, 5), (h.dists.length - 1, 5), (15, 4)] ++ ords.map (fun o => (c4 o, 3)) ++ (h.lits ++ h.dists).map (fun x => (turnN x 4, 4)) := by rw [eo]; unfold outD; simp
      rw [e] at hN hf
      have ek : ords[k]? = some (ord k) := by unfold ord nth; rw [List.getD_eq_getElem?_getD, List.getElem?_eq_getElem (show k < ords.length from hk19)]; rfl
      have := peek_map c4 3 hN hf ek
      rw [← this]; congr 1; simp only [bl]; omega
    have q5 : ∀ i x, (h.lits ++ h.dists)[i]? = some x → peekN N (z + 3 + 14 + 57 + 4 * i) 4 = turnN x 4 := by
      intro i x hxi
      have e : outM h z = ([(h.fin.toNat, 1), (h.kind, 2), (h.lits.length - 257, 5), (h.dists.length - 1, 5), (15, 4)] ++ ords.map (fun o => (c4 o, 3))) ++ (h.lits ++ h.dists).map (fun x => (turnN x 4, 4)) ++ [] := by rw [eo]; unfold outD; simp
      rw [e] at hN hf
      have := peek_map (fun x => turnN x 4) 4 hN hf hxi
      rw [← this]; congr 1; rw [bl_append, bl_map, ords_length]; simp only [bl]; omega
    have hcl : ∀ j, j < 19 → clI N (z + 3 + 14) 19 j = (c4 j : Int) := by
      intro j hj
      unfold clI
      rw [cl_at 19 q4 j (ord_all j hj)]
    have hsq : seqM C4 N M (h.lits.length - 257 + 257 + (h.dists.length - 1 + 1)) (z + 3 + 14 + 57) [] = (0, h.lits ++ h.dists, z + bl (outM h z)) := by
      rw [seq4 (h.lits ++ h.dists) (z + 3 + 14 + 57) [] (by rw [List.length_append]; simp; omega) hx q5 (by rw [List.length_append]; omega), hbl, List.length_append]
      simp; omega
    have ht : (h.lits ++ h.dists).take (h.lits.length - 257 + 257) = h.lits := by rw [show h.lits.length - 257 + 257 = h.lits.length by omega, List.take_left]
    have hd : (h.lits ++ h.dists).drop (h.lits.length - 257 + 257) = h.dists := by rw [show h.lits.length - 257 + 257 = h.lits.length by omega, List.drop_left]
    have hdy : dynM N M (z + 3) = (0, (h.lits, h.dists), z + bl (outM h z)) := by
      unfold dynM
      rw [if_neg (by omega), q1, q2, q3, if_neg (by omega), if_neg (by omega)]
      simp only [show 15 + 4 = 19 from rfl, show 3 * 19 = 57 from rfl]
      rw [if_neg (by rw [fit_C4 hcl]; simp), L_C4 hcl, hsq]
      simp only [ht, hd, hfm]
      simp
    rw [head_dyn (by omega) (by rw [p2, h2]) (by rw [hdy]), hdy, fin_peek h.fin p1]
    unfold back
    rw [if_neg (by omega), if_neg (by omega)]
end Go.Proofs.YtnkninjdpgpkmaaGreatDoor.Kw
namespace Go.Proofs.YtnkninjdpgpkmaaGreatDoor.Ks
open Go.Proofs.YtnkninjdpgpkmaaGreatDoor.Bm Go.Proofs.YtnkninjdpgpkmaaGreatDoor.Nm Go.Proofs.YtnkninjdpgpkmaaGreatDoor.Ni Go.Proofs.YtnkninjdpgpkmaaGreatDoor.Ne Go.Proofs.YtnkninjdpgpkmaaGreatDoor.Nh Go.Proofs.YtnkninjdpgpkmaaGreatDoor.Pm Go.Proofs.YtnkninjdpgpkmaaGreatDoor.Km Go.Proofs.YtnkninjdpgpkmaaGreatDoor.Kw

theorem clI_le (N a k i : Nat) : nth (L 19 (clI N a k)) i ≤ 15 := by
  refine L_le (fun j _ => ?_) i
  have := clM_le N a k j
  unfold clI
  omega
theorem dyn_facts {N M a : Nat} (h : (dynM N M a).1 = 0) :
    257 ≤ (dynM N M a).2.1.1.length ∧ (dynM N M a).2.1.1.length ≤ 286 ∧ 1 ≤ (dynM N M a).2.1.2.length ∧ (dynM N M a).2.1.2.length ≤ 30 ∧ (∀ x ∈ (dynM N M a).2.1.1 ++ (dynM N M a).2.1.2, x < 16) ∧ fitsM (dynM N M a).2.1.1 (dynM N M a).2.1.2 = 0
      ∧ a ≤ (dynM N M a).2.2 ∧ (dynM N M a).2.2 ≤ M := by
  obtain ⟨hl, ehl⟩ : ∃ hl, hl = peekN N a 5 := ⟨_, rfl⟩
  obtain ⟨hd, ehd⟩ : ∃ hd, hd = peekN N (a + 5) 5 := ⟨_, rfl⟩
  obtain ⟨hc, ehc⟩ : ∃ hc, hc = peekN N (a + 10) 4 := ⟨_, rfl⟩
  obtain ⟨r, er⟩ : ∃ r, r = seqM (L 19 (clI N (a + 14) (hc + 4))) N M (hl + 257 + (hd + 1)) (a + 14 + 3 * (hc + 4)) [] := ⟨_, rfl⟩
  unfold dynM at h ⊢
  rw [← ehl, ← ehd, ← ehc, ← er] at h ⊢
  by_cases c1 : M - a < 14
  · rw [if_pos c1] at h; cases h
  by_cases c2 : 29 < hl ∨ 29 < hd
  · rw [if_neg c1, if_pos c2] at h; cases h
  by_cases c3 : M - (a + 14) < 3 * (hc + 4)
  · rw [if_neg c1, if_neg c2, if_pos c3] at h; cases h
  by_cases c4 : fit 19 (clI N (a + 14) (hc + 4)) false ≠ 0
  · rw [if_neg c1, if_neg c2, if_neg c3, if_pos c4] at h; exact absurd h c4
  rw [if_neg c1, if_neg c2, if_neg c3, if_neg c4] at h ⊢
  simp only at h ⊢
  by_cases c5 : r.1 ≠ 0
  · rw [if_pos c5] at h; exact absurd h c5
  by_cases c6 : fitsM (r.2.1.take (hl + 257)) (r.2.1.drop (hl + 257)) ≠ 0
  · rw [if_neg c5, if_pos c6] at h; exact absurd h c6
  rw [if_neg c5, if_neg c6] at h ⊢
  simp only
  have hf := seq_facts (C := L 19 (clI N (a + 14) (hc + 4))) (N := N) (M := M) (n := hl + 257 + (hd + 1)) (clI_le N (a + 14) (hc + 4)) _ (a + 14 + 3 * (hc + 4)) [] (Nat.le_refl _) (by simp) (fun x hx => by cases hx) (by omega) (by rw [← er]; omega)
  rw [← er] at hf
  obtain ⟨f1, f2, f3, f4⟩ := hf
  rw [List.length_take, List.length_drop, f1]
  refine ⟨by omega, by omega, by omega, by omega, ?_, by omega, by omega, f4⟩
  rw [List.take_append_drop]; exact f2
theorem sto_facts {N M a : Nat} (h : (stoM N M a).1 = 0) : (stoM N M a).2.1 ≤ 65535 ∧ a ≤ (stoM N M a).2.2 ∧ (stoM N M a).2.2 ≤ M := by
  unfold stoM at h ⊢
  by_cases c1 : M - (a + 7) / 8 * 8 < 32
  · rw [if_pos c1] at h; cases h
  by_cases c2 : peekN N ((a + 7) / 8 * 8) 16 + peekN N ((a + 7) / 8 * 8 + 16) 16 ≠ 65535
  · rw [if_neg c1, if_pos c2] at h; cases h
  rw [if_neg c1, if_neg c2]
  simp only
  exact ⟨by omega, by omega, by omega⟩
/-- A head that was read. -/
theorem head_facts {N M a : Nat} (h : (headM N M a).1 = 0) : okH (headM N M a).2.1 ∧ a + 3 ≤ (headM N M a).2.2 ∧ (headM N M a).2.2 ≤ M := by
  have hk := peekN_lt N (a + 1) 2
  by_cases c1 : M - a < 3
  · rw [head_short c1] at h; cases h
  rcases (show peekN N (a + 1) 2 = 0 ∨ peekN N (a + 1) 2 = 1 ∨ peekN N (a + 1) 2 = 2 ∨ peekN N (a + 1) 2 = 3 by omega) with k | k | k | k
  · by_cases e : (stoM N M (a + 3)).1 = 0
    · rw [head_sto c1 k e]
      obtain ⟨s1, s2, s3⟩ := sto_facts e
      exact ⟨⟨Nat.zero_le _, fun _ => s1, fun e => absurd e (by show ¬ 0 = 2; omega)⟩, s2, s3⟩
    · rw [head_sto_no c1 k e] at h; exact absurd h e
  · rw [head_fix c1 k]
    exact ⟨⟨by show 1 ≤ 2; omega, fun e => absurd e (by show ¬ 1 = 0; omega), fun e => absurd e (by show ¬ 1 = 2; omega)⟩, Nat.le_refl _, by show a + 3 ≤ M; omega⟩
  · by_cases e : (dynM N M (a + 3)).1 = 0
    · rw [head_dyn c1 k e]
      obtain ⟨f1, f2, f3, f4, f5, f6, f7, f8⟩ := dyn_facts e
      exact ⟨⟨Nat.le_refl _, fun e => absurd e (by show ¬ 2 = 0; omega), fun _ => ⟨f1, f2, f3, f4, f5, f6⟩⟩, f7, f8⟩
    · rw [head_dyn_no c1 k e] at h; exact absurd h e
  · rw [head_no c1 k] at h; cases h
/-- With an error it is nothing, and the reader stands where it stood. -/
theorem head_err {N M a : Nat} (h : (headM N M a).1 ≠ 0) : (headM N M a).2.1 = Hd.zero ∧ (headM N M a).2.2 = a := by
  have hk := peekN_lt N (a + 1) 2
  by_cases c1 : M - a < 3
  · rw [head_short c1]; exact ⟨rfl, rfl⟩
  rcases (show peekN N (a + 1) 2 = 0 ∨ peekN N (a + 1) 2 = 1 ∨ peekN N (a + 1) 2 = 2 ∨ peekN N (a + 1) 2 = 3 by omega) with k | k | k | k
  · by_cases e : (stoM N M (a + 3)).1 = 0
    · rw [head_sto c1 k e] at h; exact absurd rfl h
    · rw [head_sto_no c1 k e]; exact ⟨rfl, rfl⟩
  · rw [head_fix c1 k] at h; exact absurd rfl h
  · by_cases e : (dynM N M (a + 3)).1 = 0
    · rw [head_dyn c1 k e] at h; exact absurd rfl h
    · rw [head_dyn_no c1 k e]; exact ⟨rfl, rfl⟩
  · rw [head_no c1 k]; exact ⟨rfl, rfl⟩

/-- What Write answers. -/
def wrM (kind size : Int) (n : Nat) (f : Nat → Int) (m : Nat) (g : Nat → Int) : Int :=
  if kind < 0 ∨ 2 < kind ∨ kind = 0 ∧ (size < 0 ∨ 65535 < size) then 1
  else if kind = 2 then (if n < 257 ∨ 286 < n ∨ m < 1 ∨ 30 < m then 1 else fitsI n f m g) else 0
theorem fit_zero {n : Nat} {f : Nat → Int} {lone : Bool} (h : fit n f lone = 0) : err n f = 0 := by
  by_cases e : err n f = 0
  · exact e
  · rw [fit_err e] at h; exact h
theorem L_mem {n : Nat} {f : Nat → Int} (h : ∀ i, i < n → 0 ≤ f i ∧ f i ≤ 15) : ∀ x ∈ L n f, x < 16 := by
  intro x hx
  unfold L at hx
  rw [List.mem_map] at hx
  obtain ⟨i, hi, rfl⟩ := hx
  have := h i (List.mem_range.1 hi)
  omega
/-- A list and its ints say the same. -/
theorem bad_congr {n : Nat} {f g : Nat → Int} (h : ∀ i, i < n → f i = g i) : bad n f = bad n g := by
  unfold bad
  by_cases c : 320 < n
  · rw [if_pos c, if_pos c]
  · rw [if_neg c, if_neg c]
    have : (∀ i, i < n → 0 ≤ f i ∧ f i ≤ 15) ↔ (∀ i, i < n → 0 ≤ g i ∧ g i ≤ 15) := ⟨fun k i hi => by rw [← h i hi]; exact k i hi, fun k i hi => by rw [h i hi]; exact k i hi⟩
    simp only [this]
theorem L_congr {n : Nat} {f g : Nat → Int} (h : ∀ i, i < n → f i = g i) : L n f = L n g := by
  unfold L
  refine List.map_congr_left (fun i hi => by rw [h i (List.mem_range.1 hi)])
theorem fit_congr {n : Nat} {f g : Nat → Int} (lone : Bool) (h : ∀ i, i < n → f i = g i) : fit n f lone = fit n g lone := by
  have e : err n f = err n g := by unfold err; rw [bad_congr h, L_congr h]
  unfold fit
  rw [e, L_congr h]
/-- A head that Write takes, in lists. -/
theorem wr_ok {kind size : Int} {n m : Nat} {f g : Nat → Int} (fin : Bool) (h : wrM kind size n f m g = 0) : okH ⟨fin, kind.toNat, size.toNat, L n f, L m g⟩ ∧ 0 ≤ kind ∧ kind ≤ 2 ∧ (kind = 0 → 0 ≤ size ∧ size ≤ 65535) ∧ (kind = 2 → (∀ i, i < n → 0 ≤ f i ∧ f i ≤ 15) ∧ (∀ i, i < m → 0 ≤ g i ∧ g i ≤ 15) ∧ 257 ≤ n ∧ n ≤ 286 ∧ 1 ≤ m ∧ m ≤ 30) := by
  unfold wrM at h
  by_cases c1 : kind < 0 ∨ 2 < kind ∨ kind = 0 ∧ (size < 0 ∨ 65535 < size)
  · rw [if_pos c1] at h; cases h
  rw [if_neg c1] at h
  by_cases c2 : kind = 2
  · rw [if_pos c2] at h
    by_cases c3 : n < 257 ∨ 286 < n ∨ m < 1 ∨ 30 < m
    · rw [if_pos c3] at h; cases h
    rw [if_neg c3] at h
    have h0 := h
    unfold fitsI at h
    by_cases c4 : f 256 = 0
    · rw [if_pos c4] at h; cases h
    rw [if_neg c4] at h
    by_cases c5 : fit n f true ≠ 0
    · rw [if_pos c5] at h; exact absurd h c5
    rw [if_neg c5] at h
    obtain ⟨a1, a2, a3⟩ := err_zero (fit_zero (show fit n f true = 0 by omega))
    obtain ⟨b1, b2, b3⟩ := err_zero (fit_zero h)
    refine ⟨⟨by show kind.toNat ≤ 2; omega, fun e => by have : kind.toNat = 0 := e; omega, fun _ => ⟨by show 257 ≤ (L n f).length; rw [L_length]; omega, by show (L n f).length ≤ 286; rw [L_length]; omega, by show 1 ≤ (L m g).length; rw [L_length]; omega, by show (L m g).length ≤ 30; rw [L_length]; omega, ?_, ?_⟩⟩, by omega, by omega, fun e => by omega, fun _ => ⟨a2, b2, by omega, by omega, by omega, by omega⟩⟩
    · intro x hx
      rcases List.mem_append.1 hx with hx | hx
      · exact L_mem a2 x hx
      · exact L_mem b2 x hx
    · show fitsM (L n f) (L m g) = 0
      unfold fitsM
      rw [L_length, L_length]
      have e1 : ∀ i, i < n → ix (L n f) i = f i := fun i hi => (L_eq a2 hi).symm
      have e2 : ∀ i, i < m → ix (L m g) i = g i := fun i hi => (L_eq b2 hi).symm
      unfold fitsI
      rw [e1 256 (by omega), fit_congr true e1, fit_congr true e2]
      exact h0
  · exact ⟨⟨by show kind.toNat ≤ 2; omega, fun e => by
      have : kind.toNat = 0 := e
      show size.toNat ≤ 65535
      omega, fun e => by have : kind.toNat = 2 := e; omega⟩, by omega, by omega, fun e => by omega, fun e => absurd e c2⟩
end Go.Proofs.YtnkninjdpgpkmaaGreatDoor.Ks
namespace Go.Proofs.YtnkninjdpgpkmaaGreatDoor.Fm
open Go.Proofs.YtnkninjdpgpkmaaGreatDoor.Bm Go.Proofs.YtnkninjdpgpkmaaGreatDoor.Nm Go.Proofs.YtnkninjdpgpkmaaGreatDoor.Pm Go.Proofs.YtnkninjdpgpkmaaGreatDoor.Km Go.Proofs.YtnkninjdpgpkmaaGreatDoor.Sm

/-- What comes next in a coded block: an error; its end; a byte; a copy (each with the place behind). -/
inductive Sy where
  | err (e : Int)
  | fin (a : Nat)
  | byte (a x : Nat)
  | copy (a n d : Nat)
/-- The distance, from a on, for a length n. -/
noncomputable def disM (Di : List Nat) (N M a n len : Nat) : Sy :=
  match got Di N a (M - a) with
  | none => .err (gotE Di N a (M - a))
  | some j =>
    if 29 < j then .err 9
    else if M - (a + nth Di j) < fb 2 j then .err 2
    else if len < dB j + peekN N (a + nth Di j) (fb 2 j) then .err 10
    else .copy (a + nth Di j + fb 2 j) n (dB j + peekN N (a + nth Di j) (fb 2 j))
/-- The symbol at a, where so many bytes stand ahead. -/
noncomputable def symM (Li Di : List Nat) (N M a len : Nat) : Sy :=
  match got Li N a (M - a) with
  | none => .err (gotE Li N a (M - a))
  | some i =>
    if i < 256 then .byte (a + nth Li i) i
    else if i = 256 then .fin (a + nth Li i)
    else if 285 < i then .err 9
    else if M - (a + nth Li i) < lb (i - 257) then .err 2
    else disM Di N M (a + nth Li i + lb (i - 257)) (lB (i - 257) + peekN N (a + nth Li i) (lb (i - 257))) len

section
variable {Li Di : List Nat} {N M a n len i j : Nat}
theorem dis_none (g : got Di N a (M - a) = none) : disM Di N M a n len = .err (gotE Di N a (M - a)) := by unfold disM; rw [g]
theorem dis_code (g : got Di N a (M - a) = some j) (h : 29 < j) : disM Di N M a n len = .err 9 := by unfold disM; rw [g]; simp only; rw [if_pos h]
theorem dis_short (g : got Di N a (M - a) = some j) (h : j < 30) (hs : M - (a + nth Di j) < fb 2 j) : disM Di N M a n len = .err 2 := by unfold disM; rw [g]; simp only; rw [if_neg (by omega), if_pos hs]
theorem dis_far (g : got Di N a (M - a) = some j) (h : j < 30) (hs : ¬ M - (a + nth Di j) < fb 2 j) (hd : len < dB j + peekN N (a + nth Di j) (fb 2 j)) : disM Di N M a n len = .err 10 := by
  unfold disM; rw [g]; simp only; rw [if_neg (by omega), if_neg hs, if_pos hd]
theorem dis_copy (g : got Di N a (M - a) = some j) (h : j < 30) (hs : ¬ M - (a + nth Di j) < fb 2 j) (hd : ¬ len < dB j + peekN N (a + nth Di j) (fb 2 j)) : disM Di N M a n len = .copy (a + nth Di j + fb 2 j) n (dB j + peekN N (a + nth Di j) (fb 2 j)) := by
  unfold disM; rw [g]; simp only; rw [if_neg (by omega), if_neg hs, if_neg hd]
theorem sym_none (g : got Li N a (M - a) = none) : symM Li Di N M a len = .err (gotE Li N a (M - a)) := by unfold symM; rw [g]
theorem sym_byte (g : got Li N a (M - a) = some i) (h : i < 256) : symM Li Di N M a len = .byte (a + nth Li i) i := by unfold symM; rw [g]; simp only; rw [if_pos h]
theorem sym_fin (g : got Li N a (M - a) = some i) (h : i = 256) : symM Li Di N M a len = .fin (a + nth Li i) := by unfold symM; rw [g]; simp only; rw [if_neg (by omega), if_pos h]
theorem sym_code (g : got Li N a (M - a) = some i) (h : 285 < i) : symM Li Di N M a len = .err 9 := by unfold symM; rw [g]; simp only; rw [if_neg (by omega), if_neg (by omega), if_pos h]
theorem sym_short (g : got Li N a (M - a) = some i) (h : 256 < i) (h2 : i < 286) (hs : M - (a + nth Li i) < lb (i - 257)) : symM Li Di N M a len = .err 2 := by
  unfold symM; rw [g]; simp only; rw [if_neg (by omega), if_neg (by omega), if_neg (by omega), if_pos hs]
theorem sym_dis (g : got Li N a (M - a) = some i) (h : 256 < i) (h2 : i < 286) (hs : ¬ M - (a + nth Li i) < lb (i - 257)) : symM Li Di N M a len = disM Di N M (a + nth Li i + lb (i - 257)) (lB (i - 257) + peekN N (a + nth Li i) (lb (i - 257))) len := by
  unfold symM; rw [g]; simp only; rw [if_neg (by omega), if_neg (by omega), if_neg (by omega), if_neg hs]
theorem gotE_pos {l : List Nat} (N a left : Nat) (g : got l N a left = none) : gotE l N a left ≠ 0 := by
  unfold gotE; rw [g]; simp only; split <;> omega
/-- A symbol that is read has bits. -/
theorem got_pos {l : List Nat} {N a left i : Nat} (h15 : ∀ i, nth l i ≤ 15) (g : got l N a left = some i) : i < l.length ∧ 0 < nth l i ∧ nth l i ≤ left := by
  rcases got_cases h15 N a left with ⟨k, h1, h2, h3, h4⟩ | ⟨_, h4⟩
  · rw [h4] at g; injection g with g; subst g; exact ⟨h1, ((reads_iff h15 N a k).1 h2).1, h3⟩
  · rw [h4] at g; cases g
end

/-- What may stand there. -/
def Sy.ok (a M len : Nat) : Sy → Prop
  | .err e => e ≠ 0
  | .fin a' => a < a' ∧ a' ≤ M
  | .byte a' x => a < a' ∧ a' ≤ M ∧ x < 256
  | .copy a' n d => a < a' ∧ a' ≤ M ∧ 3 ≤ n ∧ n ≤ 258 ∧ 1 ≤ d ∧ d ≤ 32768 ∧ d ≤ len
theorem dis_ok {Di : List Nat} {N M a b n len : Nat} (h15 : ∀ i, nth Di i ≤ 15) (hb : b < a) (ha : a ≤ M) (hn : 3 ≤ n ∧ n ≤ 258) : (disM Di N M a n len).ok b M len := by
  rcases hg : got Di N a (M - a) with _ | j
  · rw [dis_none hg]; exact gotE_pos N a (M - a) hg
  · obtain ⟨g1, g2, g3⟩ := got_pos h15 hg
    by_cases h1 : 29 < j
    · rw [dis_code hg h1]; show (9 : Int) ≠ 0; omega
    · by_cases h2 : M - (a + nth Di j) < fb 2 j
      · rw [dis_short hg (by omega) h2]; show (2 : Int) ≠ 0; omega
      · by_cases h3 : len < dB j + peekN N (a + nth Di j) (fb 2 j)
        · rw [dis_far hg (by omega) h2 h3]; show (10 : Int) ≠ 0; omega
        · rw [dis_copy hg (by omega) h2 h3]
          have hs := dB_sum (show j < 30 by omega) (peekN_lt N (a + nth Di j) (fb 2 j))
          exact ⟨by omega, by omega, hn.1, hn.2, hs.1, hs.2, by omega⟩
theorem sym_ok {Li Di : List Nat} {N M a len : Nat} (h15 : ∀ i, nth Li i ≤ 15) (k15 : ∀ i, nth Di i ≤ 15) (ha : a ≤ M) : (symM Li Di N M a len).ok a M len := by
  rcases hg : got Li N a (M - a) with _ | i
  · rw [sym_none hg]; exact gotE_pos N a (M - a) hg
  · obtain ⟨g1, g2, g3⟩ := got_pos h15 hg
    rcases (show i < 256 ∨ i = 256 ∨ 285 < i ∨ (256 < i ∧ i < 286) by omega) with h | h | h | ⟨h, h2⟩
    · rw [sym_byte hg h]; exact ⟨by omega, by omega, h⟩
    · rw [sym_fin hg h]; exact ⟨by omega, by omega⟩
    · rw [sym_code hg h]; show (9 : Int) ≠ 0; omega
    · by_cases hs : M - (a + nth Li i) < lb (i - 257)
      · rw [sym_short hg h h2 hs]; show (2 : Int) ≠ 0; omega
      · rw [sym_dis hg h h2 hs]
        have hb := lB_sum (show i - 257 ≤ 28 by omega) (peekN_lt N (a + nth Li i) (lb (i - 257)))
        exact dis_ok k15 (by omega) (by omega) hb
/-- Only as much of what stands ahead counts as a copy may reach. -/
theorem sym_len {Li Di : List Nat} {N M a : Nat} {l1 l2 : Nat} (h : min l1 32768 = min l2 32768) : symM Li Di N M a l1 = symM Li Di N M a l2 := by
  rcases hg : got Li N a (M - a) with _ | i
  · rw [sym_none hg, sym_none hg]
  · rcases (show i < 256 ∨ i = 256 ∨ 285 < i ∨ (256 < i ∧ i < 286) by omega) with k | k | k | ⟨k, k2⟩
    · rw [sym_byte hg k, sym_byte hg k]
    · rw [sym_fin hg k, sym_fin hg k]
    · rw [sym_code hg k, sym_code hg k]
    · by_cases hs : M - (a + nth Li i) < lb (i - 257)
      · rw [sym_short hg k k2 hs, sym_short hg k k2 hs]
      · rw [sym_dis hg k k2 hs, sym_dis hg k k2 hs]
        rcases hd : got Di N (a + nth Li i + lb (i - 257)) (M - (a + nth Li i + lb (i - 257))) with _ | j
        · rw [dis_none hd, dis_none hd]
        · by_cases h1 : 29 < j
          · rw [dis_code hd h1, dis_code hd h1]
          · by_cases h2 : M - (a + nth Li i + lb (i - 257) + nth Di j) < fb 2 j
            · rw [dis_short hd (by omega) h2, dis_short hd (by omega) h2]
            · have hb := dB_sum (show j < 30 by omega) (peekN_lt N (a + nth Li i + lb (i - 257) + nth Di j) (fb 2 j))
              by_cases h3 : l1 < dB j + peekN N (a + nth Li i + lb (i - 257) + nth Di j) (fb 2 j)
              · rw [dis_far hd (by omega) h2 h3, dis_far hd (by omega) h2 (by omega)]
              · rw [dis_copy hd (by omega) h2 h3, dis_copy hd (by omega) h2 (by omega)]

/-- The bytes of a coded block from a on, behind c: what is wrong, the place behind, the bytes. -/
noncomputable def codM (Li Di : List Nat) (N M a : Nat) (c : List UInt8) : Int × Nat × List UInt8 :=
  match symM Li Di N M a c.length with
  | .err e => (e, a, [])
  | .fin a' => (0, a', [])
  | .byte a' x => if _h : a < a' ∧ a' ≤ M then
      ((codM Li Di N M a' (c ++ [UInt8.ofNat x])).1, (codM Li Di N M a' (c ++ [UInt8.ofNat x])).2.1, UInt8.ofNat x :: (codM Li Di N M a' (c ++ [UInt8.ofNat x])).2.2) else (1, 0, [])
  | .copy a' n d => if _h : a < a' ∧ a' ≤ M then
      ((codM Li Di N M a' (c ++ Wm.out c d n)).1, (codM Li Di N M a' (c ++ Wm.out c d n)).2.1, Wm.out c d n ++ (codM Li Di N M a' (c ++ Wm.out c d n)).2.2) else (1, 0, [])
termination_by M - a
decreasing_by all_goals omega

section
variable {Li Di : List Nat} {N M a a' x n d : Nat} {c : List UInt8} {e : Int}
theorem cod_err (s : symM Li Di N M a c.length = .err e) : codM Li Di N M a c = (e, a, []) := by rw [codM, s]
theorem cod_fin (s : symM Li Di N M a c.length = .fin a') : codM Li Di N M a c = (0, a', []) := by rw [codM, s]
theorem cod_byte (s : symM Li Di N M a c.length = .byte a' x) (h : a < a' ∧ a' ≤ M) : codM Li Di N M a c = ((codM Li Di N M a' (c ++ [UInt8.ofNat x])).1, (codM Li Di N M a' (c ++ [UInt8.ofNat x])).2.1, UInt8.ofNat x :: (codM Li Di N M a' (c ++ [UInt8.ofNat x])).2.2) := by
  rw [codM, s]; simp only; rw [dif_pos h]
theorem cod_copy (s : symM Li Di N M a c.length = .copy a' n d) (h : a < a' ∧ a' ≤ M) : codM Li Di N M a c = ((codM Li Di N M a' (c ++ Wm.out c d n)).1, (codM Li Di N M a' (c ++ Wm.out c d n)).2.1, Wm.out c d n ++ (codM Li Di N M a' (c ++ Wm.out c d n)).2.2) := by
  rw [codM, s]; simp only; rw [dif_pos h]
end

/-- What has the same end counts alike. -/
def alike (c1 c2 : List UInt8) : Prop := Wm.lastN 32768 c1 = Wm.lastN 32768 c2
theorem alike_len {c1 c2 : List UInt8} (h : alike c1 c2) : min c1.length 32768 = min c2.length 32768 := by
  have := congrArg List.length h
  rw [Wm.lastN_length, Wm.lastN_length] at this
  omega
theorem alike_more {c1 c2 : List UInt8} (h : alike c1 c2) (o : List UInt8) : alike (c1 ++ o) (c2 ++ o) := by
  unfold alike at h ⊢
  rw [← Wm.lastN_cut, h, Wm.lastN_cut]
theorem alike_out {c1 c2 : List UInt8} (h : alike c1 c2) {d : Nat} (hd : 1 ≤ d) (h2 : d ≤ 32768) (h3 : d ≤ c1.length) (n : Nat) : Wm.out c1 d n = Wm.out c2 d n := by
  have hl := alike_len h
  rw [← Wm.out_cut hd h2 h3 n, ← Wm.out_cut hd h2 (show d ≤ c2.length by omega) n, h]
theorem last_last (m : Nat) (c : List UInt8) : Wm.lastN m (Wm.lastN m c) = Wm.lastN m c := by rw [Wm.lastN_lastN, Nat.min_self]
theorem alike_last (c : List UInt8) : alike (Wm.lastN 32768 c) c := last_last 32768 c

section
variable {Li Di : List Nat} {N M : Nat}
theorem cod_alike (h15 : ∀ i, nth Li i ≤ 15) (k15 : ∀ i, nth Di i ≤ 15) (k : Nat) : ∀ (a : Nat) (c1 c2 : List UInt8), M - a ≤ k → a ≤ M → alike c1 c2 → codM Li Di N M a c1 = codM Li Di N M a c2 := by
  induction k with
  | zero =>
    intro a c1 c2 hk ha hc
    have hs := sym_len (Li := Li) (Di := Di) (N := N) (M := M) (a := a) (alike_len hc)
    have ho := sym_ok (Li := Li) (Di := Di) (N := N) (M := M) (a := a) (len := c1.length) h15 k15 ha
    rcases e1 : symM Li Di N M a c1.length with e | a' | ⟨a', x⟩ | ⟨a', n, d⟩
    · rw [cod_err e1, cod_err (hs.symm.trans e1)]
    · rw [cod_fin e1, cod_fin (hs.symm.trans e1)]
    · rw [e1] at ho
      have h1 : a < a' := ho.1
      have h2 : a' ≤ M := ho.2.1
      omega
    · rw [e1] at ho
      have h1 : a < a' := ho.1
      have h2 : a' ≤ M := ho.2.1
      omega
  | succ k ih =>
    intro a c1 c2 hk ha hc
    have hs := sym_len (Li := Li) (Di := Di) (N := N) (M := M) (a := a) (alike_len hc)
    have ho := sym_ok (Li := Li) (Di := Di) (N := N) (M := M) (a := a) (len := c1.length) h15 k15 ha
    rcases e1 : symM Li Di N M a c1.length with e | a' | ⟨a', x⟩ | ⟨a', n, d⟩
    · rw [cod_err e1, cod_err (hs.symm.trans e1)]
    · rw [cod_fin e1, cod_fin (hs.symm.trans e1)]
    · rw [e1] at ho
      have h1 : a < a' ∧ a' ≤ M := ⟨ho.1, ho.2.1⟩
      rw [cod_byte e1 h1, cod_byte (hs.symm.trans e1) h1, ih a' _ _ (by omega) h1.2 (alike_more hc [UInt8.ofNat x])]
    · rw [e1] at ho
      obtain ⟨o1, o2, o3, o4, o5, o6, o7⟩ := ho
      have h1 : a < a' ∧ a' ≤ M := ⟨o1, o2⟩
      rw [cod_copy e1 h1, cod_copy (hs.symm.trans e1) h1, ← alike_out hc o5 o6 o7 n, ih a' _ _ (by omega) h1.2 (alike_more hc _)]
/-- Where it ends, and how much is made. -/
theorem cod_facts (h15 : ∀ i, nth Li i ≤ 15) (k15 : ∀ i, nth Di i ≤ 15) : ∀ (k a : Nat) (c : List UInt8), M - a ≤ k → a ≤ M →
    (codM Li Di N M a c).2.2.length ≤ 258 * (M - a) ∧ a ≤ (codM Li Di N M a c).2.1 ∧ (codM Li Di N M a c).2.1 ≤ M ∧ ((codM Li Di N M a c).1 = 0 → (codM Li Di N M a c).2.2.length + 258 * (M - (codM Li Di N M a c).2.1) ≤ 258 * (M - a) ∧ a < (codM Li Di N M a c).2.1)
  | k, a, c, hk, ha => by
    have ho := sym_ok (Li := Li) (Di := Di) (N := N) (M := M) (a := a) (len := c.length) h15 k15 ha
    rcases e1 : symM Li Di N M a c.length with e | a' | ⟨a', x⟩ | ⟨a', n, d⟩
    · rw [e1] at ho
      rw [cod_err e1]
      exact ⟨Nat.zero_le _, Nat.le_refl _, ha, fun h => absurd h ho⟩
    · rw [e1] at ho
      rw [cod_fin e1]
      have o1 : a < a' := ho.1
      have o2 : a' ≤ M := ho.2
      exact ⟨Nat.zero_le _, Nat.le_of_lt o1, o2, fun _ => ⟨by simp only [List.length_nil]; omega, o1⟩⟩
    · rw [e1] at ho
      have o1 : a < a' := ho.1
      have o2 : a' ≤ M := ho.2.1
      obtain ⟨k, rfl⟩ : ∃ k', k = k' + 1 := ⟨k - 1, by omega⟩
      have ih := cod_facts h15 k15 k a' (c ++ [UInt8.ofNat x]) (by omega) o2
      rw [cod_byte e1 ⟨o1, o2⟩]
      simp only [List.length_cons]
      generalize codM Li Di N M a' (c ++ [UInt8.ofNat x]) = r at ih
      obtain ⟨i1, i2, i3, i4⟩ := ih
      exact ⟨by omega, by omega, i3, fun h => by have := i4 h; omega⟩
    · rw [e1] at ho
      obtain ⟨o1, o2, o3, o4, o5, o6, o7⟩ := ho
      obtain ⟨k, rfl⟩ : ∃ k', k = k' + 1 := ⟨k - 1, by omega⟩
      have ih := cod_facts h15 k15 k a' (c ++ Wm.out c d n) (by omega) o2
      rw [cod_copy e1 ⟨o1, o2⟩]
      simp only [List.length_append, Wm.out_length]
      generalize codM Li Di N M a' (c ++ Wm.out c d n) = r at ih
      obtain ⟨i1, i2, i3, i4⟩ := ih
      exact ⟨by omega, by omega, i3, fun h => by have := i4 h; omega⟩
end

/-- The bytes of a stored block. -/
def stoB (N a q : Nat) : List UInt8 := (List.range q).map (fun i => UInt8.ofNat (peekN N (a + 8 * i) 8))
theorem stoB_length (N a q : Nat) : (stoB N a q).length = q := by simp [stoB]
/-- A block's bytes, its head having been read. -/
noncomputable def bodM (h : Hd) (N M a : Nat) (c : List UInt8) : Int × Nat × List UInt8 :=
  if h.kind = 0 then (if (M - a) / 8 < h.size then (2, a + 8 * ((M - a) / 8), stoB N a ((M - a) / 8)) else (0, a + 8 * h.size, stoB N a h.size))
  else codM h.lits h.dists N M a c
/-- All blocks from a on, behind c, where k bytes were made: what is wrong, the blocks' beginnings, the end, the text. -/
noncomputable def allM (N M a : Nat) (c : List UInt8) (k : Nat) : Int × List (Nat × Nat) × Nat × List UInt8 :=
  if (headM N M a).1 ≠ 0 then ((headM N M a).1, [], a, [])
  else if (bodM (headM N M a).2.1 N M (headM N M a).2.2 c).1 ≠ 0 ∨ (headM N M a).2.1.fin = true then ((bodM (headM N M a).2.1 N M (headM N M a).2.2 c).1, [(a, k)], (bodM (headM N M a).2.1 N M (headM N M a).2.2 c).2.1, (bodM (headM N M a).2.1 N M (headM N M a).2.2 c).2.2)
  else if _h : a < (bodM (headM N M a).2.1 N M (headM N M a).2.2 c).2.1 ∧ (bodM (headM N M a).2.1 N M (headM N M a).2.2 c).2.1 ≤ M then
    let b := bodM (headM N M a).2.1 N M (headM N M a).2.2 c
    let r := allM N M b.2.1 (c ++ b.2.2) (k + b.2.2.length)
    (r.1, (a, k) :: r.2.1, r.2.2.1, b.2.2 ++ r.2.2.2)
  else (1, [], 0, [])
termination_by M - a
decreasing_by omega
end Go.Proofs.YtnkninjdpgpkmaaGreatDoor.Fm
namespace Go.Proofs.YtnkninjdpgpkmaaGreatDoor.Fa
open Go.Proofs.YtnkninjdpgpkmaaGreatDoor.Bm Go.Proofs.YtnkninjdpgpkmaaGreatDoor.Nm Go.Proofs.YtnkninjdpgpkmaaGreatDoor.Pm Go.Proofs.YtnkninjdpgpkmaaGreatDoor.Km Go.Proofs.YtnkninjdpgpkmaaGreatDoor.Kw Go.Proofs.YtnkninjdpgpkmaaGreatDoor.Ks Go.Proofs.YtnkninjdpgpkmaaGreatDoor.Sm Go.Proofs.YtnkninjdpgpkmaaGreatDoor.Fm

theorem nth_le {l : List Nat} {b : Nat} (h : ∀ x ∈ l, x ≤ b) (i : Nat) : nth l i ≤ b := by
  unfold nth
  rw [List.getD_eq_getElem?_getD]
  rcases Nat.lt_or_ge i l.length with hi | hi
  · rw [List.getElem?_eq_getElem hi]; exact h _ (List.getElem_mem hi)
  · rw [List.getElem?_eq_none hi]; exact Nat.zero_le _
theorem fixL_le : ∀ x ∈ fixL, x ≤ 15 := by
  intro x hx
  unfold fixL at hx
  simp only [List.mem_append, List.mem_replicate] at hx
  omega
theorem fixD_le : ∀ x ∈ fixD, x ≤ 15 := by
  intro x hx
  unfold fixD at hx
  simp only [List.mem_replicate] at hx
  omega
/-- The lengths of a head that was read. -/
theorem head_15 {N M a : Nat} (h : (headM N M a).1 = 0) : (∀ i, nth (headM N M a).2.1.lits i ≤ 15) ∧ (∀ i, nth (headM N M a).2.1.dists i ≤ 15) := by
  have hk := peekN_lt N (a + 1) 2
  by_cases c1 : M - a < 3
  · rw [head_short c1] at h; cases h
  rcases (show peekN N (a + 1) 2 = 0 ∨ peekN N (a + 1) 2 = 1 ∨ peekN N (a + 1) 2 = 2 ∨ peekN N (a + 1) 2 = 3 by omega) with k | k | k | k
  · by_cases e : (stoM N M (a + 3)).1 = 0
    · rw [head_sto c1 k e]
      exact ⟨nth_le (fun x hx => by cases hx), nth_le (fun x hx => by cases hx)⟩
    · rw [head_sto_no c1 k e] at h; exact absurd h e
  · rw [head_fix c1 k]
    exact ⟨nth_le fixL_le, nth_le fixD_le⟩
  · by_cases e : (dynM N M (a + 3)).1 = 0
    · rw [head_dyn c1 k e]
      obtain ⟨_, _, _, _, f5, _⟩ := dyn_facts e
      exact ⟨nth_le (fun x hx => by have := f5 x (List.mem_append_left _ hx); omega), nth_le (fun x hx => by have := f5 x (List.mem_append_right _ hx); omega)⟩
    · rw [head_dyn_no c1 k e] at h; exact absurd h e
  · rw [head_no c1 k] at h; cases h

theorem bod_facts {h : Hd} {N M a : Nat} (h15 : ∀ i, nth h.lits i ≤ 15) (k15 : ∀ i, nth h.dists i ≤ 15) (ha : a ≤ M) (c : List UInt8) :
    (bodM h N M a c).2.2.length ≤ 258 * (M - a) ∧ a ≤ (bodM h N M a c).2.1 ∧ (bodM h N M a c).2.1 ≤ M ∧ ((bodM h N M a c).1 = 0 → (bodM h N M a c).2.2.length + 258 * (M - (bodM h N M a c).2.1) ≤ 258 * (M - a)) := by
  unfold bodM
  by_cases hk : h.kind = 0
  · rw [if_pos hk]
    by_cases hs : (M - a) / 8 < h.size
    · rw [if_pos hs]
      simp only [stoB_length]
      exact ⟨by omega, by omega, by omega, fun e => by cases e⟩
    · rw [if_neg hs]
      simp only [stoB_length]
      exact ⟨by omega, by omega, by omega, fun _ => by omega⟩
  · rw [if_neg hk]
    obtain ⟨f1, f2, f3, f4⟩ := cod_facts (N := N) h15 k15 (M - a) a c (Nat.le_refl _) ha
    exact ⟨f1, f2, f3, fun e => (f4 e).1⟩
theorem bod_alike {h : Hd} {N M a : Nat} (h15 : ∀ i, nth h.lits i ≤ 15) (k15 : ∀ i, nth h.dists i ≤ 15) (ha : a ≤ M) {c1 c2 : List UInt8} (hc : alike c1 c2) : bodM h N M a c1 = bodM h N M a c2 := by
  unfold bodM
  by_cases hk : h.kind = 0
  · rw [if_pos hk, if_pos hk]
  · rw [if_neg hk, if_neg hk, cod_alike h15 k15 (M - a) a c1 c2 (Nat.le_refl _) ha hc]

section
variable {N M a k : Nat} {c : List UInt8}
theorem all_head (h : (headM N M a).1 ≠ 0) : allM N M a c k = ((headM N M a).1, [], a, []) := by rw [allM, if_pos h]
theorem all_stop (h : (headM N M a).1 = 0) (h2 : (bodM (headM N M a).2.1 N M (headM N M a).2.2 c).1 ≠ 0 ∨ (headM N M a).2.1.fin = true) :
    allM N M a c k = ((bodM (headM N M a).2.1 N M (headM N M a).2.2 c).1, [(a, k)], (bodM (headM N M a).2.1 N M (headM N M a).2.2 c).2.1, (bodM (headM N M a).2.1 N M (headM N M a).2.2 c).2.2) := by
  rw [allM, if_neg (by omega), if_pos h2]
theorem head_bod (h : (headM N M a).1 = 0) (c : List UInt8) : a < (bodM (headM N M a).2.1 N M (headM N M a).2.2 c).2.1 ∧ (bodM (headM N M a).2.1 N M (headM N M a).2.2 c).2.1 ≤ M := by
  obtain ⟨_, f2, f3⟩ := head_facts h
  obtain ⟨h15, k15⟩ := head_15 h
  obtain ⟨_, g2, g3, _⟩ := bod_facts (N := N) h15 k15 f3 c
  exact ⟨by omega, g3⟩
theorem all_next (h : (headM N M a).1 = 0) (h2 : (bodM (headM N M a).2.1 N M (headM N M a).2.2 c).1 = 0) (h3 : (headM N M a).2.1.fin = false) {b : Int × Nat × List UInt8} (hb : b = bodM (headM N M a).2.1 N M (headM N M a).2.2 c) :
    allM N M a c k = ((allM N M b.2.1 (c ++ b.2.2) (k + b.2.2.length)).1, (a, k) :: (allM N M b.2.1 (c ++ b.2.2) (k + b.2.2.length)).2.1, (allM N M b.2.1 (c ++ b.2.2) (k + b.2.2.length)).2.2.1, b.2.2 ++ (allM N M b.2.1 (c ++ b.2.2) (k + b.2.2.length)).2.2.2) := by
  subst hb
  conv => lhs; rw [allM]
  rw [if_neg (by omega), if_neg (by rw [h2, h3]; simp), dif_pos (head_bod h c)]
end

/-- The three ways. -/
theorem all_cases (N M a : Nat) (c : List UInt8) : (headM N M a).1 ≠ 0 ∨ ((headM N M a).1 = 0 ∧ ((bodM (headM N M a).2.1 N M (headM N M a).2.2 c).1 ≠ 0 ∨ (headM N M a).2.1.fin = true)) ∨ ((headM N M a).1 = 0 ∧ (bodM (headM N M a).2.1 N M (headM N M a).2.2 c).1 = 0 ∧ (headM N M a).2.1.fin = false) := by
  by_cases h : (headM N M a).1 = 0
  · by_cases h2 : (bodM (headM N M a).2.1 N M (headM N M a).2.2 c).1 = 0
    · cases h3 : (headM N M a).2.1.fin
      · exact .inr (.inr ⟨h, h2, rfl⟩)
      · exact .inr (.inl ⟨h, .inr rfl⟩)
    · exact .inr (.inl ⟨h, .inl h2⟩)
  · exact .inl h

/-- Only what a copy may reach counts. -/
theorem all_alike {N M : Nat} (m : Nat) : ∀ (a : Nat) (c1 c2 : List UInt8) (k : Nat), M - a ≤ m → a ≤ M → alike c1 c2 → allM N M a c1 k = allM N M a c2 k := by
  induction m with
  | zero =>
    intro a c1 c2 k hm ha hc
    rcases all_cases N M a c1 with h | ⟨h, h2⟩ | ⟨h, h2, h3⟩
    · rw [all_head h, all_head h]
    · have := head_bod h c1; omega
    · have := head_bod h c1; omega
  | succ m ih =>
    intro a c1 c2 k hm ha hc
    rcases all_cases N M a c1 with h | ⟨h, h2⟩ | ⟨h, h2, h3⟩
    · rw [all_head h, all_head h]
    · have e := bod_alike (N := N) (head_15 h).1 (head_15 h).2 (head_facts h).2.2 hc
      rw [all_stop h h2, all_stop h (by rw [← e]; exact h2), e]
    · have e := bod_alike (N := N) (head_15 h).1 (head_15 h).2 (head_facts h).2.2 hc
      have hb := head_bod h c1
      obtain ⟨b, eb⟩ : ∃ b, b = bodM (headM N M a).2.1 N M (headM N M a).2.2 c1 := ⟨_, rfl⟩
      rw [all_next h h2 h3 eb, all_next (b := b) h (by rw [← e]; exact h2) h3 (by rw [← e]; exact eb)]
      rw [← eb] at hb
      rw [ih b.2.1 (c1 ++ b.2.2) (c2 ++ b.2.2) (k + b.2.2.length) (by omega) hb.2 (alike_more hc _)]
/-- Where it ends, and how much is made. -/
theorem all_facts {N M : Nat} (m : Nat) : ∀ (a : Nat) (c : List UInt8) (k : Nat), M - a ≤ m → a ≤ M →
    (allM N M a c k).2.2.2.length ≤ 258 * (M - a) ∧ a ≤ (allM N M a c k).2.2.1 ∧ (allM N M a c k).2.2.1 ≤ M ∧ ((allM N M a c k).1 = 0 → 1 ≤ (allM N M a c k).2.1.length) := by
  induction m with
  | zero =>
    intro a c k hm ha
    rcases all_cases N M a c with h | ⟨h, h2⟩ | ⟨h, h2, h3⟩
    · rw [all_head h]; exact ⟨Nat.zero_le _, Nat.le_refl _, ha, fun e => absurd e h⟩
    · have := head_bod h c; omega
    · have := head_bod h c; omega
  | succ m ih =>
    intro a c k hm ha
    rcases all_cases N M a c with h | ⟨h, h2⟩ | ⟨h, h2, h3⟩
    · rw [all_head h]; exact ⟨Nat.zero_le _, Nat.le_refl _, ha, fun e => absurd e h⟩
    · obtain ⟨f1, f2, f3, f4⟩ := bod_facts (N := N) (head_15 h).1 (head_15 h).2 (head_facts h).2.2 c
      have hh := (head_facts h).2
      rw [all_stop h h2]
      have hm2 : 258 * (M - (headM N M a).2.2) ≤ 258 * (M - a) := Nat.mul_le_mul_left _ (by omega)
      exact ⟨Nat.le_trans f1 hm2, Nat.le_trans (by omega) f2, f3, fun _ => Nat.le_refl _⟩
    · obtain ⟨f1, f2, f3, f4⟩ := bod_facts (N := N) (head_15 h).1 (head_15 h).2 (head_facts h).2.2 c
      have hh := (head_facts h).2
      obtain ⟨b, eb⟩ : ∃ b, b = bodM (headM N M a).2.1 N M (headM N M a).2.2 c := ⟨_, rfl⟩
      rw [← eb] at f1 f2 f3 f4
      have f5 := f4 (by rw [eb]; exact h2)
      have g := ih b.2.1 (c ++ b.2.2) (k + b.2.2.length) (by omega) f3
      rw [all_next h h2 h3 eb]
      generalize allM N M b.2.1 (c ++ b.2.2) (k + b.2.2.length) = r at g
      obtain ⟨g1, g2, g3, g4⟩ := g
      refine ⟨?_, ?_, g3, fun _ => ?_⟩
      · simp only [List.length_append]; omega
      · show a ≤ r.2.2.1; omega
      · simp only [List.length_cons]; omega
/-- Counted from elsewhere. -/
theorem all_shift {N M : Nat} (m : Nat) : ∀ (a : Nat) (c : List UInt8) (k j : Nat), M - a ≤ m → a ≤ M →
    allM N M a c (k + j) = ((allM N M a c k).1, (allM N M a c k).2.1.map (fun x => (x.1, x.2 + j)), (allM N M a c k).2.2.1, (allM N M a c k).2.2.2) := by
  induction m with
  | zero =>
    intro a c k j hm ha
    rcases all_cases N M a c with h | ⟨h, h2⟩ | ⟨h, h2, h3⟩
    · rw [all_head h, all_head h]; rfl
    · have := head_bod h c; omega
    · have := head_bod h c; omega
  | succ m ih =>
    intro a c k j hm ha
    rcases all_cases N M a c with h | ⟨h, h2⟩ | ⟨h, h2, h3⟩
    · rw [all_head h, all_head h]; rfl
    · rw [all_stop h h2, all_stop h h2]; rfl
    · have hb := head_bod h c
      obtain ⟨b, eb⟩ : ∃ b, b = bodM (headM N M a).2.1 N M (headM N M a).2.2 c := ⟨_, rfl⟩
      rw [all_next h h2 h3 eb, all_next h h2 h3 eb]
      rw [← eb] at hb
      rw [show k + j + b.2.2.length = k + b.2.2.length + j by omega, ih b.2.1 (c ++ b.2.2) (k + b.2.2.length) j (by omega) hb.2]
      rfl
/-- From each block on the rest of the text is made. -/
theorem all_from {N M : Nat} (m : Nat) : ∀ (a : Nat) (c : List UInt8) (k i : Nat) (x : Nat × Nat), M - a ≤ m → a ≤ M → (allM N M a c k).1 = 0 → (allM N M a c k).2.1[i]? = some x →
    k ≤ x.2 ∧ x.2 - k ≤ (allM N M a c k).2.2.2.length ∧ a ≤ x.1 ∧ x.1 ≤ M ∧ allM N M x.1 (c ++ (allM N M a c k).2.2.2.take (x.2 - k)) x.2 = (0, (allM N M a c k).2.1.drop i, (allM N M a c k).2.2.1, (allM N M a c k).2.2.2.drop (x.2 - k)) := by
  induction m with
  | zero =>
    intro a c k i x hm ha he hx
    rcases all_cases N M a c with h | ⟨h, h2⟩ | ⟨h, h2, h3⟩
    · rw [all_head h] at he; exact absurd he h
    · have := head_bod h c; omega
    · have := head_bod h c; omega
  | succ m ih =>
    intro a c k i x hm ha he hx
    cases i with
    | zero =>
      have hax : x = (a, k) := by
        rcases all_cases N M a c with h | ⟨h, h2⟩ | ⟨h, h2, h3⟩
        · rw [all_head h] at he; exact absurd he h
        · rw [all_stop h h2] at hx; simpa using hx.symm
        · rw [all_next h h2 h3 rfl] at hx; simpa using hx.symm
      subst hax
      simp only [Nat.sub_self, List.take_zero, List.append_nil, List.drop_zero]
      refine ⟨Nat.le_refl _, Nat.zero_le _, Nat.le_refl _, ha, ?_⟩
      generalize allM N M a c k = r at he
      obtain ⟨r1, r2⟩ := r
      simp only at he
      rw [he]
    | succ i =>
      rcases all_cases N M a c with h | ⟨h, h2⟩ | ⟨h, h2, h3⟩
      · rw [all_head h] at he; exact absurd he h
      · rw [all_stop h h2] at hx; simp at hx
      · have hb := head_bod h c
        obtain ⟨b, eb⟩ : ∃ b, b = bodM (headM N M a).2.1 N M (headM N M a).2.2 c := ⟨_, rfl⟩
        rw [all_next h h2 h3 eb] at he hx ⊢
        rw [← eb] at hb
        have g := ih b.2.1 (c ++ b.2.2) (k + b.2.2.length) i x (by omega) hb.2 he (by simpa using hx)
        generalize allM N M b.2.1 (c ++ b.2.2) (k + b.2.2.length) = r at *
        obtain ⟨g1, g2, g3, g4, g5⟩ := g
        have e1 : (b.2.2 ++ r.2.2.2).take (x.2 - k) = b.2.2 ++ r.2.2.2.take (x.2 - (k + b.2.2.length)) := by
          rw [List.take_append, List.take_of_length_le (by omega)]; congr 2; omega
        have e2 : (b.2.2 ++ r.2.2.2).drop (x.2 - k) = r.2.2.2.drop (x.2 - (k + b.2.2.length)) := by
          rw [List.drop_append, List.drop_eq_nil_of_le (by omega), List.nil_append]; congr 1; omega
        simp only
        rw [e1, e2, ← List.append_assoc, g5]
        exact ⟨by omega, by rw [List.length_append]; omega, by omega, g4, rfl⟩
end Go.Proofs.YtnkninjdpgpkmaaGreatDoor.Fa
namespace Go.Proofs.YtnkninjdpgpkmaaGreatDoor.Gm
open Go.Proofs.YtnkninjdpgpkmaaGreatDoor.Bm Go.Proofs.YtnkninjdpgpkmaaGreatDoor.Nm Go.Proofs.YtnkninjdpgpkmaaGreatDoor.Ni Go.Proofs.YtnkninjdpgpkmaaGreatDoor.Ne Go.Proofs.YtnkninjdpgpkmaaGreatDoor.Nh Go.Proofs.YtnkninjdpgpkmaaGreatDoor.Pm Go.Proofs.YtnkninjdpgpkmaaGreatDoor.Km Go.Proofs.YtnkninjdpgpkmaaGreatDoor.Kw Go.Proofs.YtnkninjdpgpkmaaGreatDoor.Ks Go.Proofs.YtnkninjdpgpkmaaGreatDoor.Sm Go.Proofs.YtnkninjdpgpkmaaGreatDoor.Fm Go.Proofs.YtnkninjdpgpkmaaGreatDoor.Fa

/-- What follows a first part. -/
theorem rest_in {N z : Nat} {p q : List (Nat × Nat)} (h : N / 2 ^ z % 2 ^ bl (p ++ q) = bn (p ++ q)) (hp : fits2 p) : N / 2 ^ (z + bl p) % 2 ^ bl q = bn q := by
  rw [Nat.pow_add, ← Nat.div_div_eq_div_mul, ← div_mod (N / 2 ^ z) (bl p) (bl (p ++ q)) (bl q) (by rw [bl_append]; omega), h, bn_append, Nat.add_mul_div_left _ _ (Nat.two_pow_pos _), Nat.div_eq_of_lt (bn_lt p hp), Nat.zero_add]
  have : bn q < 2 ^ bl q ∨ True := .inr trivial
  have e := h
  rw [bn_append, bl_append, Nat.pow_add] at e
  have hlt : bn p + 2 ^ bl p * bn q < 2 ^ bl p * 2 ^ bl q := by rw [← e]; exact Nat.mod_lt _ (Nat.mul_pos (Nat.two_pow_pos _) (Nat.two_pow_pos _))
  have h2 : 2 ^ bl p * bn q < 2 ^ bl p * 2 ^ bl q := by omega
  exact Nat.mod_eq_of_lt (Nat.lt_of_mul_lt_mul_left h2)
theorem first_in {N z : Nat} {p q : List (Nat × Nat)} (h : N / 2 ^ z % 2 ^ bl (p ++ q) = bn (p ++ q)) (hp : fits2 p) : N / 2 ^ z % 2 ^ bl p = bn p := by
  rw [← mod_div_le (N / 2 ^ z) (bl p) (bl (p ++ q)) (by rw [bl_append]; omega), h, bn_append, Nat.add_mul_mod_self_left, Nat.mod_eq_of_lt (bn_lt p hp)]
theorem fits2_append {p q : List (Nat × Nat)} (hp : fits2 p) (hq : fits2 q) : fits2 (p ++ q) := fun x hx => by
  rcases List.mem_append.1 hx with h | h
  · exact hp x h
  · exact hq x h
theorem fits2_cons {v m : Nat} {q : List (Nat × Nat)} (hv : v < 2 ^ m) (hq : fits2 q) : fits2 ((v, m) :: q) := fun x hx => by
  rcases List.mem_cons.1 hx with rfl | h
  · exact hv
  · exact hq x h
theorem fits2_nil : fits2 [] := fun _ hx => by cases hx
/-- The first of them, and the rest. -/
theorem peel {N z v m : Nat} {q : List (Nat × Nat)} (h : N / 2 ^ z % 2 ^ bl ((v, m) :: q) = bn ((v, m) :: q)) (hv : v < 2 ^ m) (hq : fits2 q) : peekN N z m = v ∧ N / 2 ^ (z + m) % 2 ^ bl q = bn q := by
  refine ⟨peek_in (p := []) h (fits2_cons hv hq), ?_⟩
  have := rest_in (p := [(v, m)]) h (fits2_cons hv fits2_nil)
  exact this

/-- Lengths that have codes. -/
structure okL (l : List Nat) : Prop where
  h15 : ∀ i, nth l i ≤ 15
  sum : ksum l 16 ≤ 32768
/-- A symbol as it is written. -/
def sy (l : List Nat) (y : Nat) : Nat × Nat := (turnN (code l y) (nth l y), nth l y)
theorem sy_fits (l : List Nat) (y : Nat) : (sy l y).1 < 2 ^ (sy l y).2 := turnN_lt _ _
theorem got_sy {l : List Nat} (ok : okL l) {N a left y : Nat} (hy : y < l.length) (h0 : 0 < nth l y) (hp : peekN N a (nth l y) = (sy l y).1) (hl : nth l y ≤ left) : got l N a left = some y := by
  refine got_some ok.h15 hy ((reads_iff ok.h15 N a y).2 ⟨h0, ?_⟩) hl
  rw [← hi_peek, hp]
  show code l y = turnN (turnN (code l y) (nth l y)) (nth l y)
  rw [turnN_turnN, Nat.mod_eq_of_lt (code_lt hy (ok.h15 y) ok.sum)]

/-- An op: a byte (n = 0), or a copy of n bytes from d ahead. -/
structure Opx where
  x : UInt8
  n : Nat
  d : Nat
/-- What an op makes behind b, and ops one after the other. -/
def opO (b : List UInt8) (o : Opx) : List UInt8 := if o.n = 0 then [o.x] else Wm.out b o.d o.n
def opsO (b : List UInt8) : List Opx → List UInt8
  | [] => []
  | o :: r => opO b o ++ opsO (b ++ opO b o) r
/-- Ops that can be done behind b. -/
def okO (b : List UInt8) (o : Opx) : Prop := o.n = 0 ∨ (3 ≤ o.n ∧ o.n ≤ 258 ∧ 1 ≤ o.d ∧ o.d ≤ 32768 ∧ o.d ≤ b.length)
def okOs (b : List UInt8) : List Opx → Prop
  | [] => True
  | o :: r => okO b o ∧ okOs (b ++ opO b o) r
/-- Their symbols have codes. -/
def has (l : List Nat) (y : Nat) : Prop := y < l.length ∧ 0 < nth l y
def hasO (Li Di : List Nat) (o : Opx) : Prop := if o.n = 0 then has Li o.x.toNat else has Li (257 + lS o.n) ∧ has Di (dS o.d)
/-- An op as it is written. -/
def encO (Li Di : List Nat) (o : Opx) : List (Nat × Nat) :=
  if o.n = 0 then [sy Li o.x.toNat] else [sy Li (257 + lS o.n), (o.n - lB (lS o.n), lb (lS o.n)), sy Di (dS o.d), (o.d - dB (dS o.d), fb 2 (dS o.d))]
def encOs (Li Di : List Nat) : List Opx → List (Nat × Nat)
  | [] => [sy Li 256]
  | o :: r => encO Li Di o ++ encOs Li Di r
theorem encO_fits (Li Di : List Nat) {b : List UInt8} {o : Opx} (h : okO b o) : fits2 (encO Li Di o) := by
  unfold encO
  by_cases h0 : o.n = 0
  · rw [if_pos h0]; exact fits2_cons (sy_fits _ _) fits2_nil
  · rw [if_neg h0]
    rcases h with h | ⟨h1, h2, h3, h4, _⟩
    · exact absurd h h0
    · exact fits2_cons (sy_fits _ _) (fits2_cons (lS_hi h1 h2) (fits2_cons (sy_fits _ _) (fits2_cons (dS_hi h3 h4) fits2_nil)))
theorem encOs_fits (Li Di : List Nat) : ∀ (os : List Opx) (b : List UInt8), okOs b os → fits2 (encOs Li Di os)
  | [], _, _ => fits2_cons (sy_fits _ _) fits2_nil
  | _ :: r, _, h => fits2_append (encO_fits Li Di h.1) (encOs_fits Li Di r _ h.2)

/-- A coded block's ops are made as they were written. -/
theorem cod_enc {Li Di : List Nat} (kL : okL Li) (kD : okL Di) (hE : has Li 256) {N M : Nat} : ∀ (os : List Opx) (a : Nat) (c : List UInt8), okOs c os → (∀ o ∈ os, hasO Li Di o) → N / 2 ^ a % 2 ^ bl (encOs Li Di os) = bn (encOs Li Di os) → a + bl (encOs Li Di os) ≤ M →
    codM Li Di N M a c = (0, a + bl (encOs Li Di os), opsO c os)
  | [], a, c, _, _, hN, hM => by
    have hp := peel (q := []) hN (sy_fits Li 256) fits2_nil
    have hM' : a + (nth Li 256 + 0) ≤ M := hM
    have hg := got_sy kL hE.1 hE.2 hp.1 (show nth Li 256 ≤ M - a by omega)
    rw [cod_fin (sym_fin hg rfl)]
    rfl
  | o :: r, a, c, ho, hh, hN, hM => by
    have hf := encO_fits Li Di ho.1
    have hr := encOs_fits Li Di r _ ho.2
    have hN1 : N / 2 ^ a % 2 ^ bl (encO Li Di o ++ encOs Li Di r) = bn (encO Li Di o ++ encOs Li Di r) := hN
    have hbl : bl (encOs Li Di (o :: r)) = bl (encO Li Di o) + bl (encOs Li Di r) := bl_append _ _
    have hM2 : a + (bl (encO Li Di o) + bl (encOs Li Di r)) ≤ M := by rw [← hbl]; exact hM
    clear hM
    have hN2 := rest_in hN1 hf
    have hho := hh o (by simp)
    have ih := cod_enc kL kD hE (N := N) (M := M) r (a + bl (encO Li Di o)) (c ++ opO c o) ho.2 (fun x hx => hh x (by simp [hx])) hN2 (by omega)
    by_cases h0 : o.n = 0
    · have eo : encO Li Di o = [sy Li o.x.toNat] := by unfold encO; rw [if_pos h0]
      have ep : opO c o = [o.x] := by unfold opO; rw [if_pos h0]
      unfold hasO at hho
      rw [if_pos h0] at hho
      rw [eo] at hN1
      have hp := peel hN1 (sy_fits Li _) hr
      have eb : bl (encO Li Di o) = nth Li o.x.toNat := by rw [eo]; rfl
      have hx : o.x.toNat < 256 := o.x.toNat_lt
      have hg := got_sy kL hho.1 hho.2 hp.1 (show nth Li o.x.toNat ≤ M - a by omega)
      rw [eb, ep] at ih
      have e8 : UInt8.ofNat o.x.toNat = o.x := by simp
      have hlt : a < a + nth Li o.x.toNat ∧ a + nth Li o.x.toNat ≤ M := ⟨by have := hho.2; omega, by omega⟩
      rw [cod_byte (sym_byte hg hx) hlt, e8, ih, hbl, eb]
      simp only [opsO, ep, List.cons_append, List.nil_append]
      rw [Nat.add_assoc]
    · have eo : encO Li Di o = [sy Li (257 + lS o.n), (o.n - lB (lS o.n), lb (lS o.n)), sy Di (dS o.d), (o.d - dB (dS o.d), fb 2 (dS o.d))] := by unfold encO; rw [if_neg h0]
      have ep : opO c o = Wm.out c o.d o.n := by unfold opO; rw [if_neg h0]
      unfold hasO at hho
      rw [if_neg h0] at hho
      obtain ⟨hl, hd⟩ := hho
      obtain ⟨n1, n2, d1, d2, d3⟩ : 3 ≤ o.n ∧ o.n ≤ 258 ∧ 1 ≤ o.d ∧ o.d ≤ 32768 ∧ o.d ≤ c.length := by
        rcases ho.1 with h | h
        · exact absurd h h0
        · exact h
      have hlo := lS_lo n1
      have hle := lS_le o.n
      have hdo := dS_lo d1
      have hde := dS_le o.d
      have f4 : fits2 ((o.d - dB (dS o.d), fb 2 (dS o.d)) :: encOs Li Di r) := fits2_cons (dS_hi d1 d2) hr
      have f3 : fits2 (sy Di (dS o.d) :: (o.d - dB (dS o.d), fb 2 (dS o.d)) :: encOs Li Di r) := fits2_cons (sy_fits _ _) f4
      have f2 : fits2 ((o.n - lB (lS o.n), lb (lS o.n)) :: sy Di (dS o.d) :: (o.d - dB (dS o.d), fb 2 (dS o.d)) :: encOs Li Di r) := fits2_cons (lS_hi n1 n2) f3
      rw [eo] at hN1
      obtain ⟨p1, r1⟩ := peel hN1 (sy_fits Li _) f2
      obtain ⟨p2, r2⟩ := peel r1 (lS_hi n1 n2) f3
      obtain ⟨p3, r3⟩ := peel r2 (sy_fits Di _) f4
      obtain ⟨p4, r4⟩ := peel r3 (dS_hi d1 d2) hr
      have eb : bl (encO Li Di o) = nth Li (257 + lS o.n) + lb (lS o.n) + nth Di (dS o.d) + fb 2 (dS o.d) := by rw [eo]; simp only [bl, sy]; omega
      have hg := got_sy kL hl.1 hl.2 p1 (show nth Li (257 + lS o.n) ≤ M - a by omega)
      have hk : 257 + lS o.n - 257 = lS o.n := by omega
      have hgd := got_sy kD hd.1 hd.2 p3 (show nth Di (dS o.d) ≤ M - (a + nth Li (257 + lS o.n) + lb (lS o.n)) by omega)
      have e1 : symM Li Di N M a c.length = .copy (a + bl (encO Li Di o)) o.n o.d := by
        rw [sym_dis hg (by omega) (by omega) (by rw [hk]; omega), hk]
        have p2' : peekN N (a + nth Li (257 + lS o.n)) (lb (lS o.n)) = o.n - lB (lS o.n) := p2
        have p4' : peekN N (a + nth Li (257 + lS o.n) + lb (lS o.n) + nth Di (dS o.d)) (fb 2 (dS o.d)) = o.d - dB (dS o.d) := p4
        rw [p2', dis_copy hgd (by omega) (by omega) (by rw [p4']; omega), p4', eb]
        rw [show lB (lS o.n) + (o.n - lB (lS o.n)) = o.n by omega, show dB (dS o.d) + (o.d - dB (dS o.d)) = o.d by omega, show a + nth Li (257 + lS o.n) + lb (lS o.n) + nth Di (dS o.d) + fb 2 (dS o.d) = a + (nth Li (257 + lS o.n) + lb (lS o.n) + nth Di (dS o.d) + fb 2 (dS o.d)) by omega]
      have hlt : a < a + bl (encO Li Di o) ∧ a + bl (encO Li Di o) ≤ M := ⟨by have := hl.2; omega, by omega⟩
      rw [ep] at ih
      rw [cod_copy e1 hlt, ih, hbl]
      simp only [opsO, ep]
      rw [Nat.add_assoc]
end Go.Proofs.YtnkninjdpgpkmaaGreatDoor.Gm
namespace Go.Proofs.YtnkninjdpgpkmaaGreatDoor.Ga
open Go.Proofs.YtnkninjdpgpkmaaGreatDoor.Bm Go.Proofs.YtnkninjdpgpkmaaGreatDoor.Nm Go.Proofs.YtnkninjdpgpkmaaGreatDoor.Ni Go.Proofs.YtnkninjdpgpkmaaGreatDoor.Ne Go.Proofs.YtnkninjdpgpkmaaGreatDoor.Nh Go.Proofs.YtnkninjdpgpkmaaGreatDoor.Pm Go.Proofs.YtnkninjdpgpkmaaGreatDoor.Km Go.Proofs.YtnkninjdpgpkmaaGreatDoor.Kw Go.Proofs.YtnkninjdpgpkmaaGreatDoor.Ks Go.Proofs.YtnkninjdpgpkmaaGreatDoor.Sm Go.Proofs.YtnkninjdpgpkmaaGreatDoor.Fm Go.Proofs.YtnkninjdpgpkmaaGreatDoor.Fa Go.Proofs.YtnkninjdpgpkmaaGreatDoor.Gm

theorem fixL_sum : ksum fixL 16 ≤ 32768 := by decide +kernel
theorem fixD_sum : ksum fixD 16 ≤ 32768 := by decide +kernel
theorem fixL_ok : okL fixL := ⟨nth_le fixL_le, fixL_sum⟩
theorem fixD_ok : okL fixD := ⟨nth_le fixD_le, fixD_sum⟩
theorem L_ix (l : List Nat) : L l.length (ix l) = l := by
  refine List.ext_getElem? (fun j => ?_)
  by_cases hj : j < l.length
  · have e : nth (L l.length (ix l)) j = nth l j := by rw [L_nth hj]; unfold ix; rw [Int.toNat_natCast]
    unfold nth at e
    rw [List.getD_eq_getElem?_getD, List.getD_eq_getElem?_getD] at e
    rw [List.getElem?_eq_getElem (by rw [L_length]; exact hj), List.getElem?_eq_getElem hj] at e ⊢
    simp only [Option.getD_some] at e
    rw [e]
  · rw [List.getElem?_eq_none (by rw [L_length]; omega), List.getElem?_eq_none (by omega)]
theorem fits_ok {li di : List Nat} (h : fitsM li di = 0) : okL li ∧ okL di ∧ nth li 256 ≠ 0 := by
  unfold fitsM fitsI at h
  by_cases c4 : ix li 256 = 0
  · rw [if_pos c4] at h; cases h
  rw [if_neg c4] at h
  by_cases c5 : fit li.length (ix li) true ≠ 0
  · rw [if_pos c5] at h; exact absurd h c5
  rw [if_neg c5] at h
  obtain ⟨_, a2, a3⟩ := err_zero (fit_zero (show fit li.length (ix li) true = 0 by omega))
  obtain ⟨_, b2, b3⟩ := err_zero (fit_zero h)
  have l1 := L_le a2
  have l2 := L_le b2
  rw [L_ix] at a3 b3 l1 l2
  refine ⟨⟨l1, a3⟩, ⟨l2, b3⟩, fun e => c4 ?_⟩
  unfold ix; rw [e]; rfl

/-- A part. -/
structure Pt where
  kind : Nat
  text : List UInt8
  ops : List Opx
  lits : List Nat
  dists : List Nat
def lis (p : Pt) : List Nat := if p.kind = 1 then fixL else p.lits
def dis (p : Pt) : List Nat := if p.kind = 1 then fixD else p.dists
def hdP (p : Pt) (fin : Bool) : Hd := ⟨fin, p.kind, p.text.length, p.lits, p.dists⟩
/-- What it stands for behind b; parts one after the other. -/
def ptO (b : List UInt8) (p : Pt) : List UInt8 := if p.kind = 0 then p.text else opsO b p.ops
def ptsO (b : List UInt8) : List Pt → List UInt8
  | [] => []
  | p :: r => ptO b p ++ ptsO (b ++ ptO b p) r
/-- A part that can be written behind b. -/
def okP (b : List UInt8) (p : Pt) : Prop := okH (hdP p false) ∧ (p.kind ≠ 0 → okOs b p.ops ∧ (∀ o ∈ p.ops, hasO (lis p) (dis p) o) ∧ has (lis p) 256)
def okPs (b : List UInt8) : List Pt → Prop
  | [] => True
  | p :: r => okP b p ∧ okPs (b ++ ptO b p) r
/-- A part as it is written at z, and parts. -/
def bodP (p : Pt) : List (Nat × Nat) := if p.kind = 0 then p.text.map (fun x => (x.toNat, 8)) else encOs (lis p) (dis p) p.ops
def encP (p : Pt) (fin : Bool) (z : Nat) : List (Nat × Nat) := outM (hdP p fin) z ++ bodP p
def encPs : List Pt → Nat → List (Nat × Nat)
  | [], _ => []
  | p :: r, z => encP p r.isEmpty z ++ encPs r (z + bl (encP p r.isEmpty z))

theorem okH_fin {p : Pt} (fin : Bool) (h : okH (hdP p false)) : okH (hdP p fin) := ⟨h.k, h.s, h.l⟩
theorem part_ok {b : List UInt8} {p : Pt} (h : okP b p) (hk : p.kind ≠ 0) : okL (lis p) ∧ okL (dis p) := by
  have h2 : p.kind ≤ 2 := h.1.k
  unfold lis dis
  by_cases h1 : p.kind = 1
  · rw [if_pos h1, if_pos h1]; exact ⟨fixL_ok, fixD_ok⟩
  · rw [if_neg h1, if_neg h1]
    have hl := h.1.l (show p.kind = 2 by omega)
    have := fits_ok hl.2.2.2.2.2
    exact ⟨this.1, this.2.1⟩
theorem back_lits {p : Pt} (fin : Bool) (hk : p.kind ≠ 0) (h2 : p.kind ≤ 2) : (back (hdP p fin)).lits = lis p ∧ (back (hdP p fin)).dists = dis p ∧ (back (hdP p fin)).kind = p.kind := by
  unfold back lis dis hdP
  simp only
  rw [if_neg hk]
  by_cases h1 : p.kind = 1
  · rw [if_pos h1, if_pos h1, if_pos h1]; exact ⟨rfl, rfl, h1.symm⟩
  · rw [if_neg h1, if_neg h1, if_neg h1]; exact ⟨rfl, rfl, by show 2 = p.kind; omega⟩
theorem back_fin (h : Hd) : (back h).fin = h.fin := by
  unfold back
  split
  · rfl
  · split <;> rfl
theorem bodP_fits {b : List UInt8} {p : Pt} (h : okP b p) : fits2 (bodP p) := by
  unfold bodP
  by_cases hk : p.kind = 0
  · rw [if_pos hk]
    intro x hx
    obtain ⟨y, _, rfl⟩ := List.mem_map.1 hx
    show y.toNat < 2 ^ 8
    exact y.toNat_lt
  · rw [if_neg hk]; exact encOs_fits _ _ _ b (h.2 hk).1
theorem encP_fits {b : List UInt8} {p : Pt} (h : okP b p) (fin : Bool) (z : Nat) : fits2 (encP p fin z) := fits2_append (outM_fits (okH_fin fin h.1) z) (bodP_fits h)
theorem encPs_fits : ∀ (ps : List Pt) (b : List UInt8) (z : Nat), okPs b ps → fits2 (encPs ps z)
  | [], _, _, _ => fits2_nil
  | _ :: r, _, _, h => fits2_append (encP_fits h.1 _ _) (encPs_fits r _ _ h.2)

/-- The bytes of a stored part. -/
theorem sto_enc {N a : Nat} {t : List UInt8} {q : List (Nat × Nat)} (h : N / 2 ^ a % 2 ^ bl (t.map (fun x => (x.toNat, 8)) ++ q) = bn (t.map (fun x => (x.toNat, 8)) ++ q)) (hf : fits2 (t.map (fun x => (x.toNat, 8)) ++ q)) : stoB N a t.length = t := by
  have e : t.map (fun x => (x.toNat, 8)) = (t.map (fun x : UInt8 => x.toNat)).map (fun x => (x, 8)) := by rw [List.map_map]; rfl
  rw [e] at h hf
  refine List.ext_getElem? (fun i => ?_)
  unfold stoB
  by_cases hi : i < t.length
  · have hx : (t.map (fun x : UInt8 => x.toNat))[i]? = some t[i].toNat := by rw [List.getElem?_map, List.getElem?_eq_getElem hi]; rfl
    have hp := peek_map (p := []) (fun x => x) 8 h hf hx
    simp only [bl, Nat.zero_add] at hp
    rw [List.getElem?_map, List.getElem?_range hi, List.getElem?_eq_getElem hi]
    simp only [Option.map_some, hp]
    simp
  · rw [List.getElem?_eq_none (by simp; omega), List.getElem?_eq_none (by omega)]
theorem bl_text (t : List UInt8) : bl (t.map (fun x => (x.toNat, 8))) = 8 * t.length := by
  have e : t.map (fun x => (x.toNat, 8)) = (t.map (fun x : UInt8 => x.toNat)).map (fun x => (x, 8)) := by rw [List.map_map]; rfl
  rw [e, bl_map (t.map (fun x : UInt8 => x.toNat)) (fun x => x) 8, List.length_map]

/-- A part's block. -/
theorem part_enc {N M a : Nat} {c : List UInt8} {p : Pt} (fin : Bool) {q : List (Nat × Nat)} (h : okP c p) (hN : N / 2 ^ a % 2 ^ bl (encP p fin a ++ q) = bn (encP p fin a ++ q)) (hq : fits2 q) (hM : a + bl (encP p fin a) ≤ M) :
    (headM N M a).1 = 0 ∧ (headM N M a).2.1.fin = fin ∧ bodM (headM N M a).2.1 N M (headM N M a).2.2 c = (0, a + bl (encP p fin a), ptO c p) := by
  have hkk : p.kind ≤ 2 := h.1.k
  have hok := okH_fin fin h.1
  have e : encP p fin a ++ q = outM (hdP p fin) a ++ (bodP p ++ q) := by unfold encP; rw [List.append_assoc]
  rw [e] at hN
  have hfo := outM_fits hok a
  have hbf := bodP_fits h
  have hbl : bl (encP p fin a) = bl (outM (hdP p fin) a) + bl (bodP p) := bl_append _ _
  have hh := head_back hok (first_in hN hfo) (show a + bl (outM (hdP p fin) a) ≤ M by omega)
  have hr := rest_in hN hfo
  rw [hh]
  refine ⟨rfl, (back_fin (hdP p fin)).trans rfl, ?_⟩
  simp only
  rw [hbl]
  by_cases hk : p.kind = 0
  · have eb : bodP p = p.text.map (fun x => (x.toNat, 8)) := by unfold bodP; rw [if_pos hk]
    have ek : (back (hdP p fin)).kind = 0 ∧ (back (hdP p fin)).size = p.text.length := by unfold back; rw [if_pos (show (hdP p fin).kind = 0 from hk)]; exact ⟨rfl, rfl⟩
    rw [eb] at hr hbf hbl ⊢
    have h8 := bl_text p.text
    unfold bodM
    rw [if_pos ek.1, ek.2, if_neg (by omega), sto_enc hr (fits2_append hbf hq)]
    unfold ptO
    rw [if_pos hk, h8]
    congr 2
    omega
  · have eb : bodP p = encOs (lis p) (dis p) p.ops := by unfold bodP; rw [if_neg hk]
    obtain ⟨b1, b2, b3⟩ := back_lits fin hk hkk
    obtain ⟨k1, k2⟩ := part_ok h hk
    obtain ⟨o1, o2, o3⟩ := h.2 hk
    rw [eb] at hr hbf hbl ⊢
    unfold bodM
    rw [if_neg (by rw [b3]; exact hk), b1, b2, cod_enc k1 k2 o3 p.ops _ c o1 o2 (first_in hr hbf) (by omega)]
    unfold ptO
    rw [if_neg hk]
    congr 2
    omega
/-- All parts' blocks. -/
theorem all_enc {N M : Nat} : ∀ (ps : List Pt) (a : Nat) (c : List UInt8) (k : Nat), ps ≠ [] → okPs c ps → N / 2 ^ a % 2 ^ bl (encPs ps a) = bn (encPs ps a) → a + bl (encPs ps a) ≤ M →
    (allM N M a c k).1 = 0 ∧ (allM N M a c k).2.1.length = ps.length ∧ (allM N M a c k).2.2.1 = a + bl (encPs ps a) ∧ (allM N M a c k).2.2.2 = ptsO c ps
  | [], _, _, _, h, _, _, _ => absurd rfl h
  | p :: r, a, c, k, _, ok, hN, hM => by
    have hN1 : N / 2 ^ a % 2 ^ bl (encP p r.isEmpty a ++ encPs r (a + bl (encP p r.isEmpty a))) = bn (encP p r.isEmpty a ++ encPs r (a + bl (encP p r.isEmpty a))) := hN
    have hbl : bl (encPs (p :: r) a) = bl (encP p r.isEmpty a) + bl (encPs r (a + bl (encP p r.isEmpty a))) := bl_append _ _
    rw [hbl] at hM ⊢
    have hf := encP_fits ok.1 r.isEmpty a
    obtain ⟨h1, h2, h3⟩ := part_enc (M := M) r.isEmpty ok.1 hN1 (encPs_fits r _ _ ok.2) (by omega)
    cases r with
    | nil =>
      rw [all_stop h1 (.inr h2), h3]
      exact ⟨rfl, rfl, rfl, by simp [ptsO]⟩
    | cons q r =>
      have ih := all_enc (N := N) (M := M) (q :: r) (a + bl (encP p false a)) (c ++ ptO c p) (k + (ptO c p).length) (by simp) ok.2 (rest_in hN1 hf) (by
        have e : (q :: r).isEmpty = false := rfl
        rw [e] at hM; omega)
      have e : (q :: r).isEmpty = false := rfl
      rw [e] at h2 h3 ⊢
      rw [all_next h1 (by rw [h3]) h2 h3.symm]
      simp only
      obtain ⟨i1, i2, i3, i4⟩ := ih
      refine ⟨i1, by simp only [List.length_cons] at i2 ⊢; omega, by rw [i3]; omega, ?_⟩
      rw [i4]; rfl
end Go.Proofs.YtnkninjdpgpkmaaGreatDoor.Ga
