/-
  Bits that are put behind bits, in plain numbers: what a round of a writer's loop makes of its last byte.
  Conditions: none but the ones that each theorem names. Nothing of the program is named here.
-/
import Derived.Test.YtgbdecnaamlekaaDoorBm
namespace Go.Proofs.YtgbdecnaamlekaaDoor.Bo
open Go.RowKit Go.Proofs.YtgbdecnaamlekaaDoor.Vm Go.Proofs.YtgbdecnaamlekaaDoor.Bm

theorem num_snoc (l : List UInt8) (c : UInt8) : num (l ++ [c]) = num l + 2 ^ (8 * l.length) * c.toNat := by
  rw [num_append]; simp [num]
/-- A list that is not empty: what is ahead of its last byte, and that byte. -/
theorem last_of (l : List UInt8) (p : Nat) (h : l.length = p + 1) : ∃ (r : List UInt8) (c : UInt8), l = r ++ [c] ∧ r.length = p := by
  refine ⟨l.take p, l[p]'(by omega), ?_, by rw [List.length_take]; omega⟩
  rw [← List.take_succ_eq_append_getElem, List.take_of_length_le (by omega)]
/-- The bits of the last byte. -/
theorem last_low {r : List UInt8} {c : UInt8} {u : Nat} (h : num (r ++ [c]) < 2 ^ (8 * r.length + u)) : c.toNat < 2 ^ u := by
  rw [num_snoc, Nat.pow_add] at h
  have h1 : 2 ^ (8 * r.length) * c.toNat < 2 ^ (8 * r.length) * 2 ^ u := by omega
  exact Nat.lt_of_mul_lt_mul_left h1
theorem mul_low (y u : Nat) (hu : u < 8) : y * 2 ^ u % 256 = y % 2 ^ (8 - u) * 2 ^ u := by
  rw [show (256 : Nat) = 2 ^ (8 - u) * 2 ^ u by rw [← Nat.pow_add, show 8 - u + u = 8 by omega], Nat.mul_mod_mul_right]
theorem low_part (y m u : Nat) (hy : y < 2 ^ m) : y % 2 ^ (8 - u) = y % 2 ^ (min (8 - u) m) := by
  by_cases h : 8 - u ≤ m
  · rw [Nat.min_eq_left h]
  · rw [Nat.min_eq_right (by omega), Nat.mod_eq_of_lt hy, Nat.mod_eq_of_lt (Nat.lt_of_lt_of_le hy (Nat.pow_le_pow_right (by omega) (by omega)))]
/-- The byte that is joined. -/
theorem or_byte (c : UInt8) (y u : Nat) (hu : u < 8) (hc : c.toNat < 2 ^ u) : c.toNat ||| y * 2 ^ u % 256 = c.toNat + y * 2 ^ u % 256 ∧ c.toNat + y * 2 ^ u % 256 < 256 := by
  have e := mul_low y u hu
  have h1 : y % 2 ^ (8 - u) < 2 ^ (8 - u) := Nat.mod_lt _ (Nat.two_pow_pos _)
  constructor
  · rw [Nat.or_comm, nat_join u _ _ (by rw [e]; exact Nat.mul_mod_left _ _) hc, Nat.add_comm]
  · rw [e]
    have h2 : (y % 2 ^ (8 - u) + 1) * 2 ^ u ≤ 2 ^ (8 - u) * 2 ^ u := Nat.mul_le_mul_right _ h1
    rw [← Nat.pow_add, show 8 - u + u = 8 by omega, Nat.add_mul, Nat.one_mul] at h2
    have : (2 : Nat) ^ 8 = 256 := rfl
    omega
/-- A round: t bits of y have gone behind z bits. -/
theorem put_round (r : List UInt8) (c : UInt8) (y m z u t : Nat) (hz : z = 8 * r.length + u) (hu : u < 8) (hl : num (r ++ [c]) < 2 ^ z) (hy : y < 2 ^ m) (hm : 1 ≤ m) (ht : t = min (8 - u) m) :
    ∃ d : UInt8, c.toNat ||| y * 2 ^ u % 256 = d.toNat ∧ num (r ++ [d]) + y / 2 ^ t * 2 ^ (z + t) = num (r ++ [c]) + y * 2 ^ z ∧ num (r ++ [d]) < 2 ^ (z + t) ∧ (r ++ [d]).length = (z + t + 7) / 8 ∧ y / 2 ^ t < 2 ^ (m - t) ∧ t ≤ m ∧ 1 ≤ t := by
  have hc := last_low (r := r) (c := c) (u := u) (by rw [← hz]; exact hl)
  obtain ⟨h1, h2⟩ := or_byte c y u hu hc
  have e1 : y * 2 ^ u % 256 = y % 2 ^ t * 2 ^ u := by rw [mul_low y u hu, low_part y m u hy, ht]
  have ed : (UInt8.ofNat (c.toNat + y * 2 ^ u % 256)).toNat = c.toNat + y * 2 ^ u % 256 := by simp; omega
  have e2 : num (r ++ [UInt8.ofNat (c.toNat + y * 2 ^ u % 256)]) = num (r ++ [c]) + y % 2 ^ t * 2 ^ z := by
    rw [num_snoc, num_snoc, ed, e1, hz, Nat.pow_add, Nat.mul_add, Nat.add_assoc]
    congr 2
    rw [Nat.mul_left_comm]
  refine ⟨UInt8.ofNat (c.toNat + y * 2 ^ u % 256), by rw [ed, h1], ?_, ?_, ?_, ?_, by omega, by omega⟩
  · rw [e2]
    have h3 := Nat.mod_add_div y (2 ^ t)
    have h4 : y * 2 ^ z = y % 2 ^ t * 2 ^ z + y / 2 ^ t * 2 ^ (z + t) := by
      calc y * 2 ^ z = (y % 2 ^ t + 2 ^ t * (y / 2 ^ t)) * 2 ^ z := by rw [h3]
        _ = y % 2 ^ t * 2 ^ z + y / 2 ^ t * 2 ^ (z + t) := by rw [Nat.add_mul, Nat.pow_add]; congr 1; rw [Nat.mul_comm (2 ^ t), Nat.mul_assoc, Nat.mul_comm (2 ^ t)]
    omega
  · rw [e2]
    have h3 : y % 2 ^ t < 2 ^ t := Nat.mod_lt _ (Nat.two_pow_pos _)
    have h4 : (y % 2 ^ t + 1) * 2 ^ z ≤ 2 ^ t * 2 ^ z := Nat.mul_le_mul_right _ h3
    rw [Nat.add_mul, Nat.one_mul, ← Nat.pow_add, Nat.add_comm t z] at h4
    omega
  · simp; omega
  · refine Nat.div_lt_of_lt_mul ?_
    rw [← Nat.pow_add, show t + (m - t) = m by omega]
    exact hy
theorem shl_byte (y u : Nat) : IntKind.u8.wrap ((y : Int) * 2 ^ u) = ((y * 2 ^ u % 256 : Nat) : Int) := by
  rw [IntKind.wrap_u8', show (y : Int) * 2 ^ u = ((y * 2 ^ u : Nat) : Int) by push_cast; rfl]
  omega
theorem shl_fits (y u : Nat) (hu : u < 8) (hy : y < 4294967296) : 0 ≤ (y : Int) * 2 ^ u ∧ (y : Int) * 2 ^ u ≤ 9223372036854775807 := by
  have e : (y : Int) * 2 ^ u = ((y * 2 ^ u : Nat) : Int) := by push_cast; rfl
  have h : y * 2 ^ u ≤ y * 2 ^ 8 := Nat.mul_le_mul_left _ (Nat.pow_le_pow_right (by omega) (by omega))
  rw [e]
  omega

end Go.Proofs.YtgbdecnaamlekaaDoor.Bo
