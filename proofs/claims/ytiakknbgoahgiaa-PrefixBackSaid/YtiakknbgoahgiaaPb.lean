/-
  Codes that stand one behind the other, in numbers: each is found at its place, whatever stands behind them.
  Conditions: as each theorem says. Nothing of the program is named here.
-/
import Derived.Test.YtiakknbgoahgiaaPt
namespace Go.Proofs.Ytiakknbgoahgiaa.Pb
open Go.Proofs.Ytiakknbgoahgiaa.Bm Go.Proofs.Ytiakknbgoahgiaa.Nm Go.Proofs.Ytiakknbgoahgiaa.Nw Go.Proofs.Ytiakknbgoahgiaa.Pm Go.Proofs.Ytiakknbgoahgiaa.Pt

/-- How many bits symbols have, and which. -/
def zs (l : List Nat) (ys : List Nat) : Nat := (ys.map (nth l)).sum
def ns (l : List Nat) : List Nat → Nat
  | [] => 0
  | y :: r => tc l y + 2 ^ nth l y * ns l r
theorem zs_nil (l : List Nat) : zs l [] = 0 := rfl
theorem zs_cons (l : List Nat) (y : Nat) (r : List Nat) : zs l (y :: r) = nth l y + zs l r := by simp [zs]
theorem zs_append (l a b : List Nat) : zs l (a ++ b) = zs l a + zs l b := by simp [zs]
theorem zs_snoc (l ys : List Nat) (y : Nat) : zs l (ys ++ [y]) = zs l ys + nth l y := by simp [zs]
theorem zs_le {l : List Nat} (h15 : ∀ i, nth l i ≤ 15) : ∀ ys : List Nat, zs l ys ≤ 15 * ys.length
  | [] => by simp [zs]
  | y :: r => by rw [zs_cons, List.length_cons]; have := zs_le h15 r; have := h15 y; omega
theorem ns_append (l : List Nat) : ∀ a b : List Nat, ns l (a ++ b) = ns l a + 2 ^ zs l a * ns l b
  | [], b => by simp [ns, zs]
  | y :: r, b => by
    rw [List.cons_append, ns, ns, ns_append l r b, zs_cons, Nat.pow_add, Nat.mul_add, Nat.mul_assoc]; omega
theorem ns_snoc (l ys : List Nat) (y : Nat) : ns l (ys ++ [y]) = ns l ys + tc l y * 2 ^ zs l ys := by
  rw [ns_append]; simp [ns, Nat.mul_comm]
theorem ns_lt (l : List Nat) : ∀ ys : List Nat, ns l ys < 2 ^ zs l ys
  | [] => by simp [ns, zs]
  | y :: r => by
    rw [ns, zs_cons, Nat.pow_add]
    have h1 := tc_lt l y
    have h2 := ns_lt l r
    calc tc l y + 2 ^ nth l y * ns l r < 2 ^ nth l y + 2 ^ nth l y * ns l r := by omega
      _ = 2 ^ nth l y * (ns l r + 1) := by rw [Nat.mul_add]; omega
      _ ≤ 2 ^ nth l y * 2 ^ zs l r := Nat.mul_le_mul_left _ h2
/-- The i-th code stands at its place. -/
theorem ns_at {l ys : List Nat} {i y : Nat} (h : ys[i]? = some y) : zs l (ys.take (i + 1)) = zs l (ys.take i) + nth l y ∧ zs l (ys.take i) + nth l y ≤ zs l ys ∧ ns l ys / 2 ^ zs l (ys.take i) % 2 ^ nth l y = tc l y := by
  have hi := (List.getElem?_eq_some_iff.1 h).1
  have e1 : ys.take (i + 1) = ys.take i ++ [y] := by
    rw [List.take_add_one, h]; rfl
  have e2 : ys = ys.take i ++ (y :: ys.drop (i + 1)) := by
    have : ys.drop i = y :: ys.drop (i + 1) := by
      rw [List.drop_eq_getElem_cons hi, (List.getElem?_eq_some_iff.1 h).2]
    rw [← this, List.take_append_drop]
  refine ⟨by rw [e1, zs_snoc], ?_, ?_⟩
  · have : zs l ys = zs l (ys.take i) + (nth l y + zs l (ys.drop (i + 1))) := by
      conv => lhs; rw [e2]
      rw [zs_append, zs_cons]
    omega
  · have : ns l ys = ns l (ys.take i) + 2 ^ zs l (ys.take i) * (tc l y + 2 ^ nth l y * ns l (ys.drop (i + 1))) := by
      conv => lhs; rw [e2]
      rw [ns_append, ns]
    rw [this, Nat.add_mul_div_left _ _ (Nat.two_pow_pos _), Nat.div_eq_of_lt (ns_lt l _), Nat.zero_add, Nat.add_mul_mod_self_left, Nat.mod_eq_of_lt (tc_lt l y)]
/-- .. and is read there, whatever stands behind them. -/
theorem got_at {l ys : List Nat} {i y N left z : Nat} (h15 : ∀ i, nth l i ≤ 15) (hk : ksum l 16 ≤ 32768) (h : ys[i]? = some y) (hy : y < l.length) (h0 : 0 < nth l y) (hz : z = zs l ys) (hN : N % 2 ^ z = ns l ys) (hl : nth l y ≤ left) :
    got l N (zs l (ys.take i)) left = some y := by
  obtain ⟨_, h2, h3⟩ := ns_at (l := l) h
  refine got_some h15 hy ((reads_At h15 hk hy _ _).2 ⟨h0, ?_⟩) hl
  unfold peekN
  have h5 := h15 y
  rw [mod_div_le _ _ _ h5, ← div_mod N (zs l (ys.take i)) z (nth l y) (by omega), hN, h3]
end Go.Proofs.Ytiakknbgoahgiaa.Pb
