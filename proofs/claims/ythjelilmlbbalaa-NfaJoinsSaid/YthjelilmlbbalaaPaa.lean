/-
  Plain functions on numbers and lists of bytes, and their laws, for the package vint: varints, fixed numbers.
  Conditions: as each theorem says.
-/
import Derived.WalkKit
import Derived.Laws.BitsAllLaws
import Derived.Lib.Hide
namespace Go.Proofs.Ythjelilmlbbalaa.Vm
open Go.RowKit

/-- The bytes of a varint. -/
def put (n : Nat) : List UInt8 :=
  if h : n < 128 then [UInt8.ofNat n] else UInt8.ofNat (n % 128 + 128) :: put (n / 128)
termination_by n
decreasing_by omega

theorem put_small {n : Nat} (h : n < 128) : put n = [UInt8.ofNat n] := by rw [put]; simp [h]
theorem put_great {n : Nat} (h : 128 ≤ n) : put n = UInt8.ofNat (n % 128 + 128) :: put (n / 128) := by
  rw [put]; simp [show ¬ n < 128 by omega]

/-- A byte's value. -/
def B (b : UInt8) : Value := .int .u8 (b.toNat : Int)
def Bs (l : List UInt8) : List Value := l.map B
theorem Bs_length (l : List UInt8) : (Bs l).length = l.length := by simp [Bs]
theorem Bs_snoc (l : List UInt8) (b : UInt8) : Bs l ++ [B b] = Bs (l ++ [b]) := by simp [Bs]

theorem or128 (m : Nat) : bits .or .u8 ((m % 128 : Nat) : Int) 128 = ((UInt8.ofNat (m % 128 + 128)).toNat : Int) := by
  have h := u8_or_nat (m % 128) 128 (by omega) (by omega)
  have e : m % 128 ||| 128 = m % 128 + 128 := by
    rw [Nat.or_comm, nat_join 7 128 (m % 128) (by decide) (by omega)]; omega
  rw [e] at h
  have : (UInt8.ofNat (m % 128 + 128)).toNat = m % 128 + 128 := by simp; omega
  rw [this]
  exact h

theorem low128 (m : Nat) (h : m < 128) : ((UInt8.ofNat m).toNat : Int) = m := by
  have : (UInt8.ofNat m).toNat = m := by simp; omega
  rw [this]

theorem pow_step {m k : Nat} (h : m < 128 ^ (k + 1)) : m / 128 < 128 ^ k := by
  rw [Nat.pow_succ] at h
  exact Nat.div_lt_of_lt_mul (by rw [Nat.mul_comm]; exact h)

theorem len_step {l m : Nat} (hl : l ≤ 8) (h : 128 ≤ m) (hm : m < 128 ^ (8 - l + 1)) : l + 1 ≤ 8 := by
  by_cases h8 : l = 8
  · subst h8; simp at hm; omega
  · omega
theorem pow_step' {l m : Nat} (hl : l ≤ 8) (h : 128 ≤ m) (hm : m < 128 ^ (8 - l + 1)) : m / 128 < 128 ^ (8 - (l + 1) + 1) := by
  have h8 := len_step hl h hm
  have e : 8 - l + 1 = (8 - (l + 1) + 1) + 1 := by omega
  rw [e] at hm
  exact pow_step hm

theorem put_round {n m : Nat} {l : List UInt8} {b : UInt8} (hl : l.length ≤ 8) (h : 128 ≤ m) (HM : Hid (m < 128 ^ (8 - l.length + 1))) (HP : Hid (put n = l ++ put m)) (HB : Hid (b = UInt8.ofNat (m % 128 + 128))) :
    (l ++ [b]).length ≤ 8 ∧ Hid (m / 128 < 128 ^ (8 - (l ++ [b]).length + 1)) ∧ Hid (put n = (l ++ [b]) ++ put (m / 128)) := by
  have e : (l ++ [b]).length = l.length + 1 := by simp
  rw [e]
  exact ⟨len_step hl h HM.out, Lib.hid (pow_step' hl h HM.out), Lib.hid (by rw [HP.out, put_great h, HB.out]; simp)⟩

theorem put_length {k : Nat} : ∀ {n : Nat}, n < 128 ^ (k + 1) → 1 ≤ (put n).length ∧ (put n).length ≤ k + 1 := by
  induction k with
  | zero => intro n h; rw [put_small (by simpa using h)]; simp
  | succ k ih =>
    intro n h
    by_cases hn : n < 128
    · rw [put_small hn]; simp
    · rw [put_great (by omega)]
      have := ih (pow_step h)
      simp; omega
theorem put_length9 {n : Nat} (h : n < 9223372036854775808) : 1 ≤ (put n).length ∧ (put n).length ≤ 9 :=
  put_length (k := 8) (by simpa using h)

/-- The varint at the head of a list of bytes, k bytes of it gone by, which made X: the number, how many bytes in all, the error (0: none). -/
def getk : Nat → Nat → List UInt8 → Nat × Nat × Int
  | k, _, [] => if 9 ≤ k then (0, 0, 4) else (0, 0, 2)
  | k, X, b :: r =>
    if 9 ≤ k then (0, 0, 4)
    else if 128 ≤ b.toNat then getk (k + 1) (X + b.toNat % 128 * 128 ^ k) r
    else if b.toNat = 0 ∧ 0 < k then (0, 0, 4)
    else (X + b.toNat * 128 ^ k, k + 1, 0)

theorem wrap64_in {n : Int} (h0 : -9223372036854775808 ≤ n) (h1 : n ≤ 9223372036854775807) : wrap64 n = n := IntWalk.wrap64_in n ⟨h0, h1⟩

theorem ofInt_wrap64 (X : Nat) (h : X < 18446744073709551616) : (BitVec.ofInt 64 (wrap64 (X : Int))).toNat = X := by
  rw [BitVec.toNat_ofInt]
  unfold wrap64
  have : ((2 ^ 64 : Nat) : Int) = 18446744073709551616 := by decide
  rw [this]
  omega

/-- The bits of a number below 2^i, and of one that 2^i divides: together they are the sum. -/
theorem or64 (i X Y : Nat) (hX : X < 2 ^ i) (hY : Y % 2 ^ i = 0) (h1 : X < 18446744073709551616) (h2 : Y < 18446744073709551616) :
    bits .or .i64 (wrap64 (X : Int)) (wrap64 (Y : Int)) = wrap64 ((X + Y : Nat) : Int) := by
  unfold bits
  have e : (BitVec.ofInt 64 (wrap64 (X : Int)) ||| BitVec.ofInt 64 (wrap64 (Y : Int))).toNat = X + Y := by
    rw [BitVec.toNat_or, ofInt_wrap64 X h1, ofInt_wrap64 Y h2, Nat.or_comm, nat_join i Y X hY hX, Nat.add_comm]
  show IntKind.i64.wrap _ = _
  rw [IntWalk.i64_left]
  exact congrArg (fun n : Nat => wrap64 (n : Int)) e

theorem pow128 (k : Nat) : 2 ^ (7 * k) = 128 ^ k := by rw [Nat.pow_mul]
theorem pow128_le {k : Nat} (h : k < 9) : 128 ^ k ≤ 72057594037927936 := by
  have : 128 ^ k ≤ 128 ^ 8 := Nat.pow_le_pow_right (by omega) (by omega)
  simpa using this

/-- A group of seven bits that is joined to what the groups ahead of it made. -/
theorem join7 (k X c : Nat) (hk : k < 9) (hc : c < 128) (hX : X < 128 ^ k) :
    bits .or .i64 (X : Int) (wrap64 ((c : Int) * 2 ^ (7 * k))) = ((X + c * 128 ^ k : Nat) : Int) ∧ X + c * 128 ^ k < 128 ^ (k + 1) ∧ X + c * 128 ^ k ≤ 9223372036854775807 := by
  have hp := pow128_le hk
  have hlt : X + c * 128 ^ k < 128 ^ (k + 1) := by
    rw [Nat.pow_succ, Nat.mul_comm (128 ^ k) 128]
    have : c * 128 ^ k ≤ 127 * 128 ^ k := Nat.mul_le_mul_right _ (by omega)
    omega
  have h9 : 128 ^ (k + 1) ≤ 9223372036854775808 := by
    have : 128 ^ (k + 1) ≤ 128 ^ 9 := Nat.pow_le_pow_right (by omega) (by omega)
    simpa using this
  have hcast : ((c : Int) * 2 ^ (7 * k)) = ((c * 128 ^ k : Nat) : Int) := by
    rw [← pow128]; push_cast; rfl
  have h := or64 (7 * k) X (c * 128 ^ k) (by rw [pow128]; exact hX) (by rw [pow128]; exact Nat.mul_mod_left _ _) (by omega) (by omega)
  rw [wrap64_in (n := (X : Int)) (by omega) (by omega), wrap64_in (n := ((X + c * 128 ^ k : Nat) : Int)) (by omega) (by omega)] at h
  rw [hcast]
  exact ⟨h, hlt, by omega⟩

/-- The bytes of a fixed number, the least significant one first. -/
def le : Nat → Nat → List UInt8
  | 0, _ => []
  | k + 1, n => UInt8.ofNat (n % 256) :: le k (n / 256)
theorem le_length : ∀ k n, (le k n).length = k
  | 0, _ => rfl
  | k + 1, n => by simp [le, le_length k]
theorem le_snoc : ∀ k n, le (k + 1) n = le k n ++ [UInt8.ofNat (n / 256 ^ k % 256)]
  | 0, n => by simp [le]
  | k + 1, n => by
    have h := le_snoc k (n / 256)
    rw [le, h, le, List.cons_append, Nat.div_div_eq_div_mul, Nat.pow_succ, Nat.mul_comm]

theorem pow256 (k : Nat) : 2 ^ (8 * k) = 256 ^ k := by rw [Nat.pow_mul]
theorem cast_pow256 (k : Nat) : (2 : Int) ^ (8 * k) = ((256 ^ k : Nat) : Int) := by rw [← pow256]; push_cast; rfl
/-- Byte k of a number. -/
theorem byte_at (n k : Nat) : IntKind.u8.wrap ((n : Int) / 2 ^ (8 * k)) = ((UInt8.ofNat (n / 256 ^ k % 256)).toNat : Int) := by
  rw [cast_pow256, IntKind.wrap_u8', ← Int.natCast_ediv]
  have : (UInt8.ofNat (n / 256 ^ k % 256)).toNat = n / 256 ^ k % 256 := by simp
  rw [this]
  omega
theorem pow256_le {k : Nat} (h : k < 8) : 256 ^ k ≤ 72057594037927936 := by
  have : 256 ^ k ≤ 256 ^ 7 := Nat.pow_le_pow_right (by omega) (by omega)
  simpa using this
theorem join_lt {k X c : Nat} (hc : c < 256) (hX : X < 256 ^ k) : X + c * 256 ^ k < 256 ^ (k + 1) := by
  rw [Nat.pow_succ, Nat.mul_comm (256 ^ k) 256]
  have : c * 256 ^ k ≤ 255 * 256 ^ k := Nat.mul_le_mul_right _ (by omega)
  omega
/-- A byte that is joined to what the bytes ahead of it made. -/
theorem join8 (k X c : Nat) (hk : k < 8) (hc : c < 256) (hX : X < 256 ^ k) :
    bits .or .i64 (wrap64 (X : Int)) (wrap64 ((c : Int) * 2 ^ (8 * k))) = wrap64 ((X + c * 256 ^ k : Nat) : Int) := by
  have hp := pow256_le hk
  have hlt := join_lt hc hX
  have h8 : 256 ^ (k + 1) ≤ 18446744073709551616 := by
    have : 256 ^ (k + 1) ≤ 256 ^ 8 := Nat.pow_le_pow_right (by omega) (by omega)
    simpa using this
  have hcast : ((c : Int) * 2 ^ (8 * k)) = ((c * 256 ^ k : Nat) : Int) := by
    rw [← pow256]; push_cast; rfl
  rw [hcast]
  exact or64 (8 * k) X (c * 256 ^ k) (by rw [pow256]; exact hX) (by rw [pow256]; exact Nat.mul_mod_left _ _) (by omega) (by omega)
theorem wrap64_neg {X : Nat} (h0 : 9223372036854775808 ≤ X) (h1 : X < 18446744073709551616) : wrap64 (X : Int) < 0 := by
  unfold wrap64; omega

theorem set_mid (l : List UInt8) (x b : UInt8) (r : List UInt8) : (Bs (l ++ x :: r)).set l.length (B b) = Bs ((l ++ [b]) ++ r) := by
  simp [Bs]
theorem le_set {k W n : Nat} (h : k < W) {b : UInt8} (HB : Hid (b = UInt8.ofNat (n / 256 ^ k % 256))) :
    (Bs (le k n ++ List.replicate (W - k) 0)).set k (B b) = Bs (le (k + 1) n ++ List.replicate (W - (k + 1)) 0) := by
  have e : W - k = (W - (k + 1)) + 1 := by omega
  rw [e, List.replicate_succ, le_snoc, ← HB.out]
  have h := set_mid (le k n) 0 b (List.replicate (W - (k + 1)) 0)
  rw [le_length] at h
  exact h

end Go.Proofs.Ythjelilmlbbalaa.Vm
