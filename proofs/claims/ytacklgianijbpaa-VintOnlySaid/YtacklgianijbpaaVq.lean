/-
  Varints there and back: what was read is laid down in just the bytes that were read; what was laid down is read as it was.
  Conditions: as each theorem says. Nothing of the program is named here.
-/
import Derived.Test.YtacklgianijbpaaVb
namespace Go.Proofs.Ytacklgianijbpaa.Vq
open Go.RowKit Go.Proofs.Ytacklgianijbpaa.Vm Go.Proofs.Ytacklgianijbpaa.Vb

theorem ofNat_toNat (b : UInt8) : UInt8.ofNat b.toNat = b := by simp

/-- What was read, laid down again. -/
theorem getk_put : ∀ {l : List UInt8} {k X n z : Nat}, getk k X l = (n, z, 0) → ∃ m, n = X + m * 128 ^ k ∧ put m = l.take (z - k) ∧ k < z ∧ (0 < k → m ≠ 0)
  | [], k, X, n, z, h => by
    rw [getk] at h
    split at h <;> simp at h
  | b :: r, k, X, n, z, h => by
    have hb := b.toNat_lt
    rw [getk] at h
    split at h
    · simp at h
    · split at h
      · rename_i h9 h128
        obtain ⟨m, hn, hp, hk, hm⟩ := getk_put h
        have hm0 := hm (by omega)
        refine ⟨b.toNat % 128 + 128 * m, ?_, ?_, by omega, fun _ => by omega⟩
        · rw [hn, Nat.pow_succ, Nat.add_mul, Nat.add_assoc]
          congr 2
          rw [Nat.mul_comm (128 ^ k) 128, ← Nat.mul_assoc, Nat.mul_comm m 128]
        · rw [put_great (by omega), show (b.toNat % 128 + 128 * m) / 128 = m by omega, show (b.toNat % 128 + 128 * m) % 128 + 128 = b.toNat by omega, ofNat_toNat, hp,
            show z - k = (z - (k + 1)) + 1 by omega, List.take_succ_cons]
      · rename_i h9 h128
        split at h
        · simp at h
        · rename_i h0
          simp only [Prod.mk.injEq] at h
          obtain ⟨rfl, rfl, _⟩ := h
          refine ⟨b.toNat, rfl, ?_, by omega, fun hk e => h0 ⟨e, hk⟩⟩
          rw [put_small (by omega), ofNat_toNat, show k + 1 - k = 1 by omega]
          simp

/-- What was laid down, read again, whatever stands behind it. -/
theorem put_getk : ∀ (n : Nat) {k X : Nat} (r : List UInt8), n < 128 ^ (9 - k) → k < 9 → (0 < k → n ≠ 0) → getk k X (put n ++ r) = (X + n * 128 ^ k, k + (put n).length, 0) := by
  intro n
  induction n using Nat.strongRecOn with
  | ind n ih =>
    intro k X r hn hk h0
    by_cases h : n < 128
    · rw [put_small h]
      have e : (UInt8.ofNat n).toNat = n := by simp; omega
      simp only [List.cons_append, List.nil_append, List.length_cons, List.length_nil]
      rw [getk, if_neg (by omega), e, if_neg (by omega), if_neg (fun c => h0 c.2 c.1)]
    · rw [put_great (by omega)]
      have e : (UInt8.ofNat (n % 128 + 128)).toNat = n % 128 + 128 := by simp; omega
      have e9 : 9 - k = (9 - (k + 1)) + 1 := by omega
      have hn' := hn
      rw [e9] at hn'
      have hk8 : k + 1 < 9 := by
        apply Decidable.byContradiction
        intro hc
        rw [show 9 - (k + 1) = 0 by omega] at hn'
        simp at hn'
        omega
      simp only [List.cons_append, List.length_cons]
      rw [getk, if_neg (by omega), e, if_pos (by omega), ih (n / 128) (by omega) r (pow_step hn') hk8 (fun _ => by omega)]
      refine Prod.ext ?_ (Prod.ext ?_ rfl)
      · show X + (n % 128 + 128) % 128 * 128 ^ k + n / 128 * 128 ^ (k + 1) = X + n * 128 ^ k
        rw [Nat.pow_succ, show (n % 128 + 128) % 128 = n % 128 by omega, Nat.add_assoc]
        congr 1
        rw [Nat.mul_comm (128 ^ k) 128, ← Nat.mul_assoc, ← Nat.add_mul]
        congr 1
        omega
      · show k + 1 + (put (n / 128)).length = k + ((put (n / 128)).length + 1)
        omega

/-- Get at the place of a varint. -/
theorem getR_at {s : ByteArray} {a n : Nat} {r : List UInt8} (h : s.data.toList.drop a = put n ++ r) (hn : n < 9223372036854775808) : getR s a = ((n : Int), (a : Int) + ((put n).length : Int), 0) := by
  have hg := put_getk n (k := 0) (X := 0) r (by simpa using hn) (by omega) (fun h => absurd h (by omega))
  simp only [Nat.zero_add, Nat.pow_zero, Nat.mul_one] at hg
  have ha : ¬ (a : Int) < 0 := by omega
  simp [getR, ha, h, hg]

theorem le_get : ∀ (W n k : Nat), k < W → (le W n)[k]? = some (UInt8.ofNat (n / 256 ^ k % 256))
  | 0, _, _, h => by omega
  | W + 1, n, 0, _ => by simp [le]
  | W + 1, n, k + 1, h => by
    rw [le, List.getElem?_cons_succ, le_get W (n / 256) k (by omega), Nat.div_div_eq_div_mul, Nat.pow_succ, Nat.mul_comm 256]

end Go.Proofs.Ytacklgianijbpaa.Vq
