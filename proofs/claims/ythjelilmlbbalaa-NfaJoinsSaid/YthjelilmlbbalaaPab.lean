/-
  Bits of strings in plain numbers: the number of a list of bytes, so many bits of it from a place on, bits in the other order.
  Sets of bytes in numbers: four words of 64 bits; who is in them; sets that are made of others.
  How a set of bytes is shown, in lists: a byte's notation, runs, the list between the brackets.
  Sets of bytes in numbers, more: words that are changed one by one (all others, either, both); bits counted, also by OnesCount64's way.
  Conditions: as each theorem says.
-/
import Derived.Test.YthjelilmlbbalaaPaa
import Derived.PlainAid
namespace Go.Proofs.Ythjelilmlbbalaa.Bm
open Go.RowKit Go.Proofs.Ythjelilmlbbalaa.Vm

/-- The number whose bits are the bytes' bits, the first byte's lowest bit first. -/
def num : List UInt8 → Nat
  | [] => 0
  | b :: l => b.toNat + 256 * num l

theorem pow8 (n : Nat) : 2 ^ (8 * (n + 1)) = 256 * 2 ^ (8 * n) := by
  rw [show 8 * (n + 1) = 8 + 8 * n by omega, Nat.pow_add]
theorem num_append : ∀ (a b : List UInt8), num (a ++ b) = num a + 2 ^ (8 * a.length) * num b
  | [], b => by simp [num]
  | x :: a, b => by
    simp only [List.cons_append, num, List.length_cons]
    rw [num_append a b, pow8, Nat.mul_add, Nat.mul_assoc]
    omega
theorem num_lt : ∀ (l : List UInt8), num l < 2 ^ (8 * l.length)
  | [] => by simp [num]
  | x :: l => by
    have h := num_lt l
    have hx := UInt8.toNat_lt x
    simp only [num, List.length_cons]
    rw [pow8]
    omega
theorem num_split (l : List UInt8) (k : Nat) : num l = num (l.take k) + 2 ^ (8 * (l.take k).length) * num (l.drop k) := by
  rw [← num_append, List.take_append_drop]
theorem num_past (l : List UInt8) (k : Nat) (h : l.length ≤ k) : num l < 2 ^ (8 * k) :=
  Nat.lt_of_lt_of_le (num_lt l) (Nat.pow_le_pow_right (by omega) (by omega))
theorem num_drop (l : List UInt8) (k : Nat) : num (l.drop k) = num l / 2 ^ (8 * k) := by
  by_cases h : k ≤ l.length
  · have e := num_split l k
    have hl : (l.take k).length = k := by rw [List.length_take]; omega
    have hlt := num_lt (l.take k)
    rw [hl] at e hlt
    rw [e, Nat.add_mul_div_left _ _ (Nat.two_pow_pos _), Nat.div_eq_of_lt hlt]
    omega
  · rw [List.drop_eq_nil_of_le (by omega), Nat.div_eq_of_lt (num_past l k (by omega))]; rfl
theorem num_take (l : List UInt8) (k : Nat) : num (l.take k) = num l % 2 ^ (8 * k) := by
  by_cases h : k ≤ l.length
  · have e := num_split l k
    have hl : (l.take k).length = k := by rw [List.length_take]; omega
    have hlt := num_lt (l.take k)
    rw [hl] at e hlt
    rw [e, Nat.add_mul_mod_self_left, Nat.mod_eq_of_lt hlt]
  · rw [List.take_of_length_le (by omega), Nat.mod_eq_of_lt (num_past l k (by omega))]
theorem num_get (l : List UInt8) (k : Nat) (x : UInt8) (h : l[k]? = some x) : num l / 2 ^ (8 * k) % 256 = x.toNat := by
  rw [← num_drop]
  have hk : k < l.length := by
    rcases Nat.lt_or_ge k l.length with h' | h'
    · exact h'
    · rw [List.getElem?_eq_none h'] at h; cases h
  rw [List.drop_eq_getElem_cons hk]
  rw [List.getElem?_eq_getElem hk] at h
  injection h with h
  rw [h]
  have := UInt8.toNat_lt x
  simp only [num]
  omega
theorem num_inj : ∀ (a b : List UInt8), a.length = b.length → num a = num b → a = b
  | [], [], _, _ => rfl
  | [], _ :: _, h, _ => by simp at h
  | _ :: _, [], h, _ => by simp at h
  | x :: a, y :: b, h, e => by
    have hx := UInt8.toNat_lt x
    have hy := UInt8.toNat_lt y
    simp only [num] at e
    have e1 : x.toNat = y.toNat := by omega
    have e2 : num a = num b := by omega
    rw [num_inj a b (by simpa using h) e2, UInt8.toNat_inj.1 e1]

/-- n bits of N from the bit a on. -/
def peekN (N a n : Nat) : Nat := N / 2 ^ a % 2 ^ n
theorem peekN_lt (N a n : Nat) : peekN N a n < 2 ^ n := Nat.mod_lt _ (Nat.two_pow_pos _)
theorem peekN_zero (N a : Nat) : peekN N a 0 = 0 := by simp [peekN, Nat.mod_one]
theorem div_mod (N a k n : Nat) (h : a + n ≤ k) : N % 2 ^ k / 2 ^ a % 2 ^ n = N / 2 ^ a % 2 ^ n := by
  apply Nat.eq_of_testBit_eq
  intro i
  simp only [Nat.testBit_mod_two_pow, Nat.testBit_div_two_pow]
  by_cases hi : i < n
  · have : i + a < k := by omega
    simp [hi, this]
  · simp [hi]
theorem mod_div_le (n k m : Nat) (h : k ≤ m) : (n % 2 ^ m) % 2 ^ k = n % 2 ^ k := by
  apply Nat.eq_of_testBit_eq
  intro i
  simp only [Nat.testBit_mod_two_pow]
  by_cases hi : i < k
  · have : i < m := by omega
    simp [hi, this]
  · simp [hi]
/-- Parts. -/
theorem peekN_add (N a n m : Nat) : peekN N a (n + m) = peekN N a n + 2 ^ n * peekN N (a + n) m := by
  unfold peekN
  rw [Nat.pow_add 2 a n, ← Nat.div_div_eq_div_mul]
  generalize N / 2 ^ a = M
  have h1 := Nat.mod_add_div (M % 2 ^ (n + m)) (2 ^ n)
  rw [mod_div_le M n (n + m) (by omega)] at h1
  have h2 : M % 2 ^ (n + m) / 2 ^ n = M / 2 ^ n % 2 ^ m := by
    have h := div_mod M n (n + m) m (by omega)
    rw [Nat.mod_eq_of_lt] at h
    · exact h
    · refine Nat.div_lt_of_lt_mul ?_
      rw [← Nat.pow_add]
      exact Nat.mod_lt _ (Nat.two_pow_pos _)
  rw [h2] at h1
  exact h1.symm
theorem peekN_one (N a : Nat) : peekN N a 1 = N / 2 ^ a % 2 := by simp [peekN]
theorem peekN_next (N a m : Nat) : peekN N a (m + 1) = 2 * peekN N (a + 1) m + N / 2 ^ a % 2 := by
  rw [Nat.add_comm m 1, peekN_add, peekN_one]
  omega

/-- The bit of a string. -/
theorem bit_at (l : List UInt8) (i : Nat) (x : UInt8) (h : l[i / 8]? = some x) : x.toNat / 2 ^ (i % 8) % 2 = num l / 2 ^ i % 2 := by
  rw [← num_get l (i / 8) x h]
  have h1 := div_mod (num l / 2 ^ (8 * (i / 8))) (i % 8) 8 1 (by omega)
  simp only [Nat.pow_one, show (2 : Nat) ^ 8 = 256 from rfl] at h1
  rw [h1, Nat.div_div_eq_div_mul, ← Nat.pow_add, show 8 * (i / 8) + i % 8 = i by omega]
theorem bit_past (l : List UInt8) (i : Nat) (h : 8 * l.length ≤ i) : num l / 2 ^ i % 2 = 0 := by
  have : num l < 2 ^ i := Nat.lt_of_lt_of_le (num_lt l) (Nat.pow_le_pow_right (by omega) h)
  rw [Nat.div_eq_of_lt this]

/-- What a reader's loop over bytes makes. -/
def wordN (N first i : Nat) : Nat := peekN N (8 * first) (8 * i)
theorem wordN_next (l : List UInt8) (first i : Nat) (x : UInt8) (h : l[first + i]? = some x) : wordN (num l) first (i + 1) = wordN (num l) first i + x.toNat * 256 ^ i := by
  unfold wordN
  rw [show 8 * (i + 1) = 8 * i + 8 by omega, peekN_add, ← num_get l (first + i) x h, pow256, Nat.mul_comm (256 ^ i)]
  unfold peekN
  rw [show 8 * first + 8 * i = 8 * (first + i) by omega]
theorem wordN_lt (N first i : Nat) : wordN N first i < 256 ^ i := by rw [← pow256]; exact peekN_lt _ _ _
theorem word_peek (l : List UInt8) (a n cnt : Nat) (h : cnt = (a % 8 + n + 8 - 1) / 8 ∨ cnt = l.length - a / 8) :
    wordN (num l) (a / 8) cnt / 2 ^ (a % 8) % 2 ^ n = peekN (num l) a n := by
  have e : ∀ M, M = num l / 2 ^ (8 * (a / 8)) → M / 2 ^ (a % 8) % 2 ^ n = peekN (num l) a n := by
    intro M hM
    rw [hM, Nat.div_div_eq_div_mul, ← Nat.pow_add, show 8 * (a / 8) + a % 8 = a by omega]; rfl
  rcases h with h | h
  · have h1 : wordN (num l) (a / 8) cnt / 2 ^ (a % 8) % 2 ^ n = num l / 2 ^ (8 * (a / 8)) / 2 ^ (a % 8) % 2 ^ n := div_mod _ _ _ _ (by omega)
    rw [h1]; exact e _ rfl
  · have h1 : wordN (num l) (a / 8) cnt = num l / 2 ^ (8 * (a / 8)) := by
      refine Nat.mod_eq_of_lt ?_
      subst h
      rw [← num_drop]
      have := num_lt (l.drop (a / 8))
      rw [List.length_drop] at this
      exact this
    rw [h1]; exact e _ rfl

/-- The lowest n bits of v in the other order. -/
def turnN (v : Nat) : Nat → Nat
  | 0 => 0
  | n + 1 => 2 * turnN v n + v / 2 ^ n % 2
theorem turnN_lt (v : Nat) : ∀ n, turnN v n < 2 ^ n
  | 0 => by simp [turnN]
  | n + 1 => by
    have := turnN_lt v n
    simp only [turnN, Nat.pow_succ]
    omega
theorem turnN_high (v n : Nat) : ∀ k, turnN v (n + k) / 2 ^ k = turnN v n
  | 0 => by simp
  | k + 1 => by
    rw [← Nat.add_assoc]
    simp only [turnN]
    rw [Nat.pow_succ, Nat.mul_comm (2 ^ k) 2, ← Nat.div_div_eq_div_mul, show (2 * turnN v (n + k) + v / 2 ^ (n + k) % 2) / 2 = turnN v (n + k) by omega]
    exact turnN_high v n k
theorem turnN_bit (v : Nat) : ∀ (n j : Nat), (turnN v n).testBit j = (decide (j < n) && v.testBit (n - 1 - j))
  | 0, j => by simp [turnN]
  | n + 1, 0 => by
    rw [Nat.testBit_zero, Nat.testBit_eq_decide_div_mod_eq]
    simp only [turnN, Nat.add_sub_cancel, Nat.sub_zero]
    simp
  | n + 1, j + 1 => by
    rw [Nat.testBit_succ]
    simp only [turnN]
    rw [show (2 * turnN v n + v / 2 ^ n % 2) / 2 = turnN v n by omega, turnN_bit v n j]
    simp [show n - (j + 1) = n - 1 - j by omega]
theorem turnN_turnN (v n : Nat) : turnN (turnN v n) n = v % 2 ^ n := by
  apply Nat.eq_of_testBit_eq
  intro j
  rw [turnN_bit, turnN_bit, Nat.testBit_mod_two_pow]
  by_cases h : j < n
  · have h1 : n - 1 - j < n := by omega
    simp [h, h1, show n - 1 - (n - 1 - j) = j by omega]
  · simp [h]
theorem turnN_mod (v k : Nat) : ∀ n, n ≤ k → turnN (v % 2 ^ k) n = turnN v n := by
  intro n h
  apply Nat.eq_of_testBit_eq
  intro j
  rw [turnN_bit, turnN_bit, Nat.testBit_mod_two_pow]
  by_cases hj : j < n
  · have : n - 1 - j < k := by omega
    simp [hj, this]
  · simp [hj]
theorem peekN_low (v n : Nat) (h : v < 2 ^ n) : peekN v 0 n = v := by unfold peekN; rw [Nat.pow_zero, Nat.div_one, Nat.mod_eq_of_lt h]

/-- One step of a network that turns bits. -/
def swapN (k m x : Nat) : Nat := (x / 2 ^ k &&& m) ||| ((x &&& m) * 2 ^ k % 4294967296)
def swap (k j : Nat) : Nat := if j / k % 2 = 0 then j + k else j - k
theorem swapN_lt (k m x : Nat) (hm : m < 4294967296) : swapN k m x < 4294967296 :=
  Nat.or_lt_two_pow (n := 32) (Nat.lt_of_le_of_lt Nat.and_le_right hm) (Nat.mod_lt _ (by decide))
theorem swapN_bit (k m x : Nat) (hm : ∀ j, j < 32 → m.testBit j = decide (j / k % 2 = 0)) (hk : ∀ j, j < 32 → (j / k % 2 = 0 → k ≤ j → ¬ (j - k) / k % 2 = 0) ∧ (¬ j / k % 2 = 0 → k ≤ j ∧ (j - k) / k % 2 = 0)) :
    ∀ j, j < 32 → (swapN k m x).testBit j = x.testBit (swap k j) := by
  intro j hj
  unfold swapN swap
  rw [show (4294967296 : Nat) = 2 ^ 32 from rfl, Nat.testBit_or, Nat.testBit_and, Nat.testBit_mod_two_pow, Nat.testBit_mul_two_pow, Nat.testBit_and, Nat.testBit_div_two_pow, hm j hj, hm (j - k) (by omega)]
  obtain ⟨h1, h2⟩ := hk j hj
  by_cases h : j / k % 2 = 0
  · rw [if_pos h]
    by_cases hkj : k ≤ j
    · have := h1 h hkj
      simp [h, this, Nat.add_comm]
    · simp [h, hkj, Nat.add_comm]
  · obtain ⟨h3, h4⟩ := h2 h
    rw [if_neg h]
    simp [h, h3, h4, hj]
def rev8 (x : Nat) : Nat := swapN 8 16711935 x
def rev16 (x : Nat) : Nat := x / 2 ^ 16 ||| x * 2 ^ 16 % 4294967296
theorem mask1 : ∀ j : Fin 32, (1431655765 : Nat).testBit j = decide (j.1 / 1 % 2 = 0) := by decide
theorem mask2 : ∀ j : Fin 32, (858993459 : Nat).testBit j = decide (j.1 / 2 % 2 = 0) := by decide
theorem mask4 : ∀ j : Fin 32, (252645135 : Nat).testBit j = decide (j.1 / 4 % 2 = 0) := by decide
theorem mask8 : ∀ j : Fin 32, (16711935 : Nat).testBit j = decide (j.1 / 8 % 2 = 0) := by decide
theorem swaps : ∀ j : Fin 32, swap 1 (swap 2 (swap 4 (swap 8 (if j.1 < 16 then j.1 + 16 else j.1 - 16)))) = 31 - j.1 := by decide
theorem swap_lt1 : ∀ j : Fin 32, swap 8 j.1 < 32 ∧ swap 4 j.1 < 32 ∧ swap 2 j.1 < 32 := by decide
/-- All 32 bits in the other order. -/
def rev32 (x : Nat) : Nat := rev16 (swapN 8 16711935 (swapN 4 252645135 (swapN 2 858993459 (swapN 1 1431655765 x))))
theorem rev16_bit (x j : Nat) (hx : x < 4294967296) (hj : j < 32) : (rev16 x).testBit j = x.testBit (if j < 16 then j + 16 else j - 16) := by
  unfold rev16
  rw [show (4294967296 : Nat) = 2 ^ 32 from rfl, Nat.testBit_or, Nat.testBit_mod_two_pow, Nat.testBit_mul_two_pow, Nat.testBit_div_two_pow]
  by_cases h : j < 16
  · have : ¬ 16 ≤ j := by omega
    simp [h, this]
  · have h1 : 16 ≤ j := by omega
    have h2 : x.testBit (j + 16) = false := Nat.testBit_lt_two_pow (Nat.lt_of_lt_of_le hx (by
      rw [show (4294967296 : Nat) = 2 ^ 32 from rfl]; exact Nat.pow_le_pow_right (by omega) (by omega)))
    simp [h, h1, hj, h2]
theorem rev16_lt (x : Nat) (hx : x < 4294967296) : rev16 x < 4294967296 :=
  Nat.or_lt_two_pow (n := 32) (Nat.lt_of_le_of_lt (Nat.div_le_self _ _) hx) (Nat.mod_lt _ (by decide))
theorem rev32_eq (x : Nat) (_ : x < 4294967296) : rev32 x = turnN x 32 := by
  apply Nat.eq_of_testBit_eq
  intro j
  rw [turnN_bit]
  have h8 := swapN_lt 8 16711935 (swapN 4 252645135 (swapN 2 858993459 (swapN 1 1431655765 x))) (by decide)
  by_cases hj : j < 32
  · have e1 := swaps ⟨j, hj⟩
    have hq : (if j < 16 then j + 16 else j - 16) < 32 := by split <;> omega
    have l8 := (swap_lt1 ⟨_, hq⟩).1
    have l4 := (swap_lt1 ⟨_, l8⟩).2.1
    have l2 := (swap_lt1 ⟨_, l4⟩).2.2
    unfold rev32
    rw [rev16_bit _ j h8 hj]
    rw [swapN_bit 8 _ _ (fun j h => mask8 ⟨j, h⟩) (fun j h => by omega) _ hq]
    rw [swapN_bit 4 _ _ (fun j h => mask4 ⟨j, h⟩) (fun j h => by omega) _ l8]
    rw [swapN_bit 2 _ _ (fun j h => mask2 ⟨j, h⟩) (fun j h => by omega) _ l4]
    rw [swapN_bit 1 _ _ (fun j h => mask1 ⟨j, h⟩) (fun j h => by omega) _ l2]
    rw [e1]
    simp [hj]
  · unfold rev32
    rw [Nat.testBit_lt_two_pow (i := j) (Nat.lt_of_lt_of_le (rev16_lt _ h8) (by rw [show (4294967296 : Nat) = 2 ^ 32 from rfl]; exact Nat.pow_le_pow_right (by omega) (by omega)))]
    simp [hj]

theorem cast_mod32 (A : Nat) : (A : Int) % 4294967296 = ((A % 4294967296 : Nat) : Int) := by omega
/-- A step of the network in the model's words. -/
theorem swap_int (k m x : Nat) (K : Int) (hK : K = ((2 ^ k : Nat) : Int)) (hx : x < 4294967296) (hm : m < 4294967296) :
    bits .or .u32 (bits .and .u32 ((x : Int) / K) (m : Int)) (bits .and .u32 (x : Int) (m : Int) * K % 4294967296) = ((swapN k m x : Nat) : Int) := by
  subst hK
  rw [← Int.natCast_ediv, u32_and_nat _ _ (Nat.lt_of_le_of_lt (Nat.div_le_self _ _) hx) hm, u32_and_nat _ _ hx hm]
  rw [← Int.natCast_mul, cast_mod32]
  rw [u32_or_nat _ _ (Nat.lt_of_le_of_lt Nat.and_le_right hm) (Nat.mod_lt _ (by decide))]
  rfl
theorem half_int (x : Nat) (hx : x < 4294967296) : bits .or .u32 ((x : Int) / 65536) ((x : Int) * 65536 % 4294967296) = ((rev16 x : Nat) : Int) := by
  have h := u32_or_nat (x / 2 ^ 16) (x * 2 ^ 16 % 4294967296) (Nat.lt_of_le_of_lt (Nat.div_le_self _ _) hx) (Nat.mod_lt _ (by decide))
  have e1 : (x : Int) / 65536 = ((x / 2 ^ 16 : Nat) : Int) := by omega
  have e2 : (x : Int) * 65536 % 4294967296 = ((x * 2 ^ 16 % 4294967296 : Nat) : Int) := by omega
  rw [e1, e2]
  exact h

theorem and64 (X Y : Nat) (h1 : X < 9223372036854775808) (h2 : Y < 9223372036854775808) : bits .and .i64 (X : Int) (Y : Int) = ((X &&& Y : Nat) : Int) := by
  unfold bits
  have e : (BitVec.ofInt 64 (X : Int) &&& BitVec.ofInt 64 (Y : Int)).toNat = X &&& Y := by
    rw [BitVec.toNat_and, ofInt_u64 X (by omega), ofInt_u64 Y (by omega)]
  show IntKind.i64.wrap _ = _
  rw [IntWalk.i64_left]
  have h3 : X &&& Y ≤ X := Nat.and_le_left
  have h4 : wrap64 ((X &&& Y : Nat) : Int) = ((X &&& Y : Nat) : Int) := wrap64_in (by omega) (by omega)
  rw [← h4]
  exact congrArg (fun n : Nat => wrap64 (n : Int)) e
theorem ones_int (n : Nat) (h : n ≤ 32) : wrap64 (wrap64 (2 ^ n) - 1) = ((2 ^ n - 1 : Nat) : Int) := by
  have e : (2 : Int) ^ n = ((2 ^ n : Nat) : Int) := by push_cast; rfl
  have h1 : 2 ^ n ≤ 2 ^ 32 := Nat.pow_le_pow_right (by omega) h
  have h0 : 0 < 2 ^ n := Nat.two_pow_pos n
  rw [e]
  generalize 2 ^ n = M at *
  rw [wrap64_in (n := (M : Int)) (by omega) (by omega), wrap64_in (by omega) (by omega)]
  omega
/-- So many bits of a number behind a shift. -/
theorem mask_int (W q n : Nat) (hW : W < 9223372036854775808) (h : n ≤ 32) : bits .and .i64 ((W : Int) / 2 ^ q) (wrap64 (wrap64 (2 ^ n) - 1)) = ((W / 2 ^ q % 2 ^ n : Nat) : Int) := by
  have e : (W : Int) / 2 ^ q = ((W / 2 ^ q : Nat) : Int) := by simp
  have h1 : 2 ^ n ≤ 2 ^ 32 := Nat.pow_le_pow_right (by omega) h
  rw [e, ones_int n h, and64 _ _ (Nat.lt_of_le_of_lt (Nat.div_le_self _ _) hW) (by omega), Nat.and_two_pow_sub_one_eq_mod]

/-- The lowest bits of any number. -/
theorem low_bits (v : Int) (n : Nat) (h : n ≤ 32) : bits .and .i64 v (wrap64 (wrap64 (2 ^ n) - 1)) = (((v % 18446744073709551616).toNat % 2 ^ n : Nat) : Int) := by
  rw [ones_int n h]
  have h1 : 2 ^ n ≤ 2 ^ 32 := Nat.pow_le_pow_right (by omega) h
  have h0 : 0 < 2 ^ n := Nat.two_pow_pos n
  unfold bits
  have e : (BitVec.ofInt 64 v &&& BitVec.ofInt 64 ((2 ^ n - 1 : Nat) : Int)).toNat = (v % 18446744073709551616).toNat % 2 ^ n := by
    rw [BitVec.toNat_and, ofInt_u64 _ (by omega), BitVec.toNat_ofInt, show ((2 ^ 64 : Nat) : Int) = 18446744073709551616 from by decide, Nat.and_two_pow_sub_one_eq_mod]
  show IntKind.i64.wrap _ = _
  rw [IntWalk.i64_left]
  have h3 : (v % 18446744073709551616).toNat % 2 ^ n < 2 ^ n := Nat.mod_lt _ h0
  have h4 : wrap64 (((v % 18446744073709551616).toNat % 2 ^ n : Nat) : Int) = (((v % 18446744073709551616).toNat % 2 ^ n : Nat) : Int) := wrap64_in (by omega) (by omega)
  rw [← h4]
  exact congrArg (fun n : Nat => wrap64 (n : Int)) e

end Go.Proofs.Ythjelilmlbbalaa.Bm
namespace Go.Proofs.Ythjelilmlbbalaa.Tm

/-- Four words. -/
structure isSet (a : List Nat) : Prop where
  l : a.length = 4
  b : ∀ x ∈ a, x < 18446744073709551616
def has (a : List Nat) (c : Nat) : Bool := (a.getD (c / 64) 0).testBit (c % 64)
theorem has_div (a : List Nat) (c : Nat) : has a c = decide (a.getD (c / 64) 0 / 2 ^ (c % 64) % 2 = 1) := Nat.testBit_eq_decide_div_mod_eq
/-- With one byte more. -/
def wth (a : List Nat) (c : Nat) : List Nat := a.set (c / 64) (a.getD (c / 64) 0 ||| 2 ^ (c % 64))
def zero : List Nat := [0, 0, 0, 0]
theorem zero_set : isSet zero := ⟨rfl, fun x hx => by simp [zero] at hx; omega⟩
theorem has_zero {c : Nat} (h : c < 256) : has zero c = false := by
  have e : zero.getD (c / 64) 0 = 0 := by
    rcases (show c / 64 = 0 ∨ c / 64 = 1 ∨ c / 64 = 2 ∨ c / 64 = 3 by omega) with h | h | h | h <;> rw [h] <;> rfl
  unfold has
  rw [e, Nat.zero_testBit]
theorem getD_set {a : List Nat} {i j x : Nat} (hi : i < a.length) : (a.set i x).getD j 0 = if j = i then x else a.getD j 0 := by
  rw [List.getD_eq_getElem?_getD, List.getElem?_set, List.getD_eq_getElem?_getD]
  by_cases h : j = i
  · subst h; simp [hi]
  · rw [if_neg (fun e => h e.symm), if_neg h]
theorem has_wth {a : List Nat} (ha : isSet a) {c d : Nat} (hc : c < 256) : has (wth a c) d = (has a d || decide (d = c)) := by
  unfold has wth
  rw [getD_set (by rw [ha.l]; omega)]
  by_cases h : d / 64 = c / 64
  · rw [if_pos h, Nat.testBit_or, h, Nat.testBit_two_pow]
    congr 1
    by_cases e : d = c
    · subst e; simp
    · rw [decide_eq_false e, decide_eq_false (by omega)]
  · rw [if_neg h, decide_eq_false (fun e => h (by rw [e])), Bool.or_false]
theorem wth_set {a : List Nat} (ha : isSet a) (c : Nat) : isSet (wth a c) := by
  refine ⟨by unfold wth; rw [List.length_set]; exact ha.l, fun x hx => ?_⟩
  rcases List.mem_or_eq_of_mem_set hx with h | h
  · exact ha.b x h
  · rw [h]
    have h1 : a.getD (c / 64) 0 < 2 ^ 64 := by
      by_cases hl : c / 64 < a.length
      · rw [List.getD_eq_getElem?_getD, List.getElem?_eq_getElem hl]
        exact ha.b _ (List.getElem_mem hl)
      · rw [List.getD_eq_getElem?_getD, List.getElem?_eq_none (by omega)]
        exact Nat.pow_pos (by omega)
    have h2 : 2 ^ (c % 64) < 2 ^ 64 := Nat.pow_lt_pow_right (by omega) (by omega)
    exact Nat.or_lt_two_pow h1 h2
/-- Two sets with the same bytes are one. -/
theorem set_ext {a b : List Nat} (ha : isSet a) (hb : isSet b) (h : ∀ c, c < 256 → has a c = has b c) : a = b := by
  refine List.ext_getElem (by rw [ha.l, hb.l]) (fun i h1 h2 => ?_)
  have hi : i < 4 := by rw [← ha.l]; exact h1
  refine Nat.eq_of_testBit_eq (fun k => ?_)
  by_cases hk : k < 64
  · have := h (64 * i + k) (by omega)
    unfold has at this
    rw [show (64 * i + k) / 64 = i by omega, show (64 * i + k) % 64 = k by omega] at this
    rw [List.getD_eq_getElem?_getD, List.getD_eq_getElem?_getD, List.getElem?_eq_getElem h1, List.getElem?_eq_getElem h2] at this
    exact this
  · have t1 : a[i].testBit k = false := Nat.testBit_lt_two_pow (Nat.lt_of_lt_of_le (ha.b _ (List.getElem_mem h1)) (show 18446744073709551616 ≤ 2 ^ k from Nat.pow_le_pow_right (n := 2) (i := 64) (by decide) (show 64 ≤ k by omega)))
    have t2 : b[i].testBit k = false := Nat.testBit_lt_two_pow (Nat.lt_of_lt_of_le (hb.b _ (List.getElem_mem h2)) (show 18446744073709551616 ≤ 2 ^ k from Nat.pow_le_pow_right (n := 2) (i := 64) (by decide) (show 64 ≤ k by omega)))
    rw [t1, t2]
/-- The set of bytes that a test takes: the first n of them looked at. -/
def upto (p : Nat → Bool) : Nat → List Nat
  | 0 => zero
  | n + 1 => if p n then wth (upto p n) n else upto p n
theorem upto_set (p : Nat → Bool) : ∀ n, isSet (upto p n)
  | 0 => zero_set
  | n + 1 => by
    unfold upto
    split
    · exact wth_set (upto_set p n) n
    · exact upto_set p n
theorem has_upto (p : Nat → Bool) : ∀ n, n ≤ 256 → ∀ c, c < 256 → has (upto p n) c = (decide (c < n) && p c)
  | 0, _, c, hc => by rw [show upto p 0 = zero from rfl, has_zero hc]; simp
  | n + 1, hn, c, hc => by
    have ih := has_upto p n (by omega) c hc
    unfold upto
    by_cases hp : p n = true
    · rw [if_pos hp, has_wth (upto_set p n) (by omega), ih]
      by_cases e : c = n
      · subst e; simp [hp]
      · rw [decide_eq_false e, Bool.or_false]
        congr 1
        exact decide_eq_decide.2 (by omega)
    · rw [if_neg hp, ih]
      by_cases e : c = n
      · subst e
        simp [hp]
      · congr 1
        exact decide_eq_decide.2 (by omega)
/-- The set of a text's bytes. -/
def ofS (l : List UInt8) : List Nat := l.foldl (fun a c => wth a c.toNat) zero
theorem fold_set : ∀ (l : List UInt8) (a : List Nat), isSet a → isSet (l.foldl (fun a c => wth a c.toNat) a)
  | [], _, h => h
  | c :: l, _, h => fold_set l _ (wth_set h c.toNat)
theorem fold_has : ∀ (l : List UInt8) (a : List Nat), isSet a → ∀ d, has (l.foldl (fun a c => wth a c.toNat) a) d = (has a d || l.any (fun c => decide (d = c.toNat)))
  | [], _, _, d => by simp
  | c :: l, a, h, d => by
    rw [List.foldl_cons, fold_has l _ (wth_set h c.toNat) d, has_wth h (by have := c.toNat_lt; omega), List.any_cons, Bool.or_assoc]
theorem ofS_set (l : List UInt8) : isSet (ofS l) := fold_set l _ zero_set
theorem has_ofS (l : List UInt8) {d : Nat} (hd : d < 256) : has (ofS l) d = l.any (fun c => decide (d = c.toNat)) := by
  unfold ofS; rw [fold_has l _ zero_set, has_zero hd, Bool.false_or]
/-- The bytes of a set, in order; how many. -/
def byt (a : List Nat) : List Nat := (List.range 256).filter (has a)
theorem mem_byt {a : List Nat} {c : Nat} : c ∈ byt a ↔ c < 256 ∧ has a c = true := by
  unfold byt; rw [List.mem_filter, List.mem_range]
theorem ofS_byt {a : List Nat} (ha : isSet a) : ofS ((byt a).map UInt8.ofNat) = a := by
  refine set_ext (ofS_set _) ha (fun c hc => ?_)
  rw [has_ofS _ hc, List.any_map]
  by_cases h : has a c = true
  · rw [h, List.any_eq_true]
    exact ⟨c, mem_byt.2 ⟨hc, h⟩, by simp [Nat.mod_eq_of_lt hc]⟩
  · have h' : has a c = false := by simpa using h
    rw [h', List.any_eq_false]
    intro x hx
    obtain ⟨h1, h2⟩ := mem_byt.1 hx
    simp [Nat.mod_eq_of_lt h1]
    rintro rfl
    exact h h2
/-- A set and all others are 256 bytes. -/
theorem byt_not {a b : List Nat} (h : ∀ c, c < 256 → has b c = !has a c) : (byt a).length + (byt b).length = 256 := by
  unfold byt
  have e : (List.range 256).filter (has b) = (List.range 256).filter (fun c => !has a c) := List.filter_congr (fun c hc => h c (List.mem_range.1 hc))
  rw [e]
  have : ∀ l : List Nat, (l.filter (has a)).length + (l.filter (fun c => !has a c)).length = l.length := fun l => by
    induction l with
    | nil => rfl
    | cons x l ih =>
      rw [List.filter_cons, List.filter_cons]
      cases hx : has a x
      · simp; omega
      · simp; omega
  rw [this, List.length_range]
end Go.Proofs.Ythjelilmlbbalaa.Tm
namespace Go.Proofs.Ythjelilmlbbalaa.Ts
open Go.Proofs.Ythjelilmlbbalaa.Tm

def hexd (k : Nat) : UInt8 := if k < 10 then UInt8.ofNat (48 + k) else UInt8.ofNat (87 + k)
/-- The bytes that are shown behind a backslash. -/
def maskL : List Nat := [92, 91, 93, 40, 41, 123, 125, 42, 43, 63, 124, 46, 45, 94, 47, 34]
def nota (c : Nat) : List UInt8 :=
  if c = 10 then [92, 110] else if c = 9 then [92, 116] else if c = 32 then [92, 115] else if c ∈ maskL then [92, UInt8.ofNat c] else if 32 < c ∧ c < 127 then [UInt8.ofNat c] else [92, 120, hexd (c / 16), hexd (c % 16)]
theorem nota_len (c : Nat) : 1 ≤ (nota c).length ∧ (nota c).length ≤ 4 := by
  unfold nota
  repeat' split
  all_goals simp
/-- How many bytes behind x are one more each. -/
def runF : Nat → List Nat → Nat
  | _, [] => 0
  | x, y :: r => if y = x + 1 then runF y r + 1 else 0
theorem runF_le : ∀ (x : Nat) (r : List Nat), runF x r ≤ r.length
  | _, [] => Nat.le_refl _
  | x, y :: r => by
    unfold runF
    have := runF_le y r
    split
    · rw [List.length_cons]; omega
    · omega
theorem runF_get : ∀ (x : Nat) (r : List Nat) (j : Nat), j ≤ runF x r → (x :: r)[j]? = some (x + j)
  | x, r, 0, _ => rfl
  | x, [], j + 1, h => by unfold runF at h; omega
  | x, y :: r, j + 1, h => by
    unfold runF at h
    by_cases hy : y = x + 1
    · rw [if_pos hy] at h
      have := runF_get y r j (by omega)
      rw [List.getElem?_cons_succ, this, hy]
      congr 1; omega
    · rw [if_neg hy] at h; omega
theorem runF_stop : ∀ (x : Nat) (r : List Nat), (x :: r)[runF x r + 1]? ≠ some (x + runF x r + 1)
  | x, [] => by simp [runF]
  | x, y :: r => by
    unfold runF
    by_cases hy : y = x + 1
    · rw [if_pos hy]
      have := runF_stop y r
      rw [List.getElem?_cons_succ]
      intro e
      apply this
      rw [e, hy]
      congr 1; omega
    · rw [if_neg hy]
      intro e
      rw [Nat.zero_add, List.getElem?_cons_succ] at e
      have e2 : (y :: r)[0]? = some y := rfl
      rw [e2] at e
      injection e with e
      omega
/-- A walk that counts as long as the bytes are one more each has counted the run. -/
theorem runF_is {x : Nat} {r : List Nat} {n : Nat} (h1 : ∀ j, j ≤ n → (x :: r)[j]? = some (x + j)) (h2 : (x :: r)[n + 1]? ≠ some (x + n + 1)) : runF x r = n := by
  rcases Nat.lt_trichotomy (runF x r) n with h | h | h
  · have e := h1 (runF x r + 1) (by omega)
    exact absurd e (runF_stop x r)
  · exact h
  · exact absurd (runF_get x r (n + 1) (by omega)) h2
/-- The list between the brackets. -/
def lstQ : List Nat → List UInt8
  | [] => []
  | x :: r => if 2 ≤ runF x r then nota x ++ 45 :: (nota (x + runF x r) ++ lstQ (r.drop (runF x r))) else nota x ++ lstQ r
termination_by l => l.length
decreasing_by
  all_goals simp only [List.length_cons, List.length_drop]
  all_goals omega
theorem lstQ_nil : lstQ [] = [] := by rw [lstQ]
theorem lstQ_run {x : Nat} {r : List Nat} (h : 2 ≤ runF x r) : lstQ (x :: r) = nota x ++ 45 :: (nota (x + runF x r) ++ lstQ (r.drop (runF x r))) := by rw [lstQ, if_pos h]
theorem lstQ_one {x : Nat} {r : List Nat} (h : ¬ 2 ≤ runF x r) : lstQ (x :: r) = nota x ++ lstQ r := by rw [lstQ, if_neg h]
/-- A set as it is shown; na: all the others. -/
def shwQ (a na : List Nat) : List UInt8 :=
  match byt a with
  | [x] => nota x
  | b => if 128 < b.length then 91 :: 94 :: (lstQ (byt na) ++ [93]) else 91 :: (lstQ b ++ [93])
/-- .. by the bytes that stand there. -/
theorem lstQ_at {b : List Nat} {i x : Nat} (h : b[i]? = some x) : b.drop i = x :: b.drop (i + 1) := by
  obtain ⟨h1, h2⟩ := List.getElem?_eq_some_iff.1 h
  rw [List.drop_eq_getElem_cons h1, h2]
theorem lstQ_len : ∀ (n : Nat) (b : List Nat), b.length ≤ n → (lstQ b).length ≤ 4 * b.length
  | _, [], _ => by rw [lstQ_nil]; exact Nat.le_refl _
  | 0, x :: r, h => absurd h (by simp)
  | n + 1, x :: r, h => by
    have h1 := nota_len x
    rw [List.length_cons] at h
    by_cases h2 : 2 ≤ runF x r
    · have h3 := nota_len (x + runF x r)
      have h4 := lstQ_len n (r.drop (runF x r)) (by rw [List.length_drop]; omega)
      have h5 := runF_le x r
      rw [List.length_drop] at h4
      rw [lstQ_run h2]
      simp only [List.length_append, List.length_cons]
      omega
    · have h4 := lstQ_len n r (by omega)
      rw [lstQ_one h2]
      simp only [List.length_append, List.length_cons]
      omega
end Go.Proofs.Ythjelilmlbbalaa.Ts
namespace Go.Proofs.Ythjelilmlbbalaa.Ta
open Go.Proofs.Ythjelilmlbbalaa.Tm

/-- Four words, the first k of them changed. -/
def mix (f : Nat → Nat → Nat) (a b : List Nat) (k : Nat) : List Nat := (List.range 4).map fun i => if i < k then f (a.getD i 0) (b.getD i 0) else a.getD i 0
section
variable {f : Nat → Nat → Nat} {a b : List Nat} {k : Nat}
theorem mix_length : (mix f a b k).length = 4 := by simp [mix]
theorem mix_get {i : Nat} (h : i < 4) : (mix f a b k)[i]? = some (if i < k then f (a.getD i 0) (b.getD i 0) else a.getD i 0) := by simp [mix, h]
theorem mix_getD {i : Nat} (h : i < 4) : (mix f a b k).getD i 0 = if i < k then f (a.getD i 0) (b.getD i 0) else a.getD i 0 := by
  rw [List.getD_eq_getElem?_getD, mix_get h]; rfl
theorem get_of {a : List Nat} (ha : isSet a) {i : Nat} (h : i < 4) : a[i]? = some (a.getD i 0) := by
  rw [List.getD_eq_getElem?_getD, List.getElem?_eq_getElem (by rw [ha.l]; exact h)]; rfl
theorem word_lt {a : List Nat} (ha : isSet a) (i : Nat) : a.getD i 0 < 18446744073709551616 := by
  by_cases h : i < a.length
  · rw [List.getD_eq_getElem?_getD, List.getElem?_eq_getElem h]
    exact ha.b _ (List.getElem_mem h)
  · rw [List.getD_eq_getElem?_getD, List.getElem?_eq_none (by omega)]
    show 0 < _
    omega
theorem mix_zero (ha : isSet a) : mix f a b 0 = a := List.ext_getElem? fun i => by
  by_cases h : i < 4
  · rw [mix_get h, if_neg (by omega), get_of ha h]
  · rw [List.getElem?_eq_none (by rw [mix_length]; omega), List.getElem?_eq_none (by rw [ha.l]; omega)]
theorem mix_step (hk : k < 4) : (mix f a b k).set k (f (a.getD k 0) (b.getD k 0)) = mix f a b (k + 1) := List.ext_getElem? fun i => by
  by_cases h : i < 4
  · rw [List.getElem?_set, mix_length, mix_get h, mix_get h]
    by_cases e : k = i
    · subst e; simp [hk]
    · rw [if_neg e]
      by_cases e2 : i < k
      · rw [if_pos e2, if_pos (by omega)]
      · rw [if_neg e2, if_neg (by omega)]
  · rw [List.getElem?_eq_none (by rw [List.length_set, mix_length]; omega), List.getElem?_eq_none (by rw [mix_length]; omega)]
theorem mix_set (ha : isSet a) (hb : isSet b) (hf : ∀ x y, x < 18446744073709551616 → y < 18446744073709551616 → f x y < 18446744073709551616) : isSet (mix f a b k) :=
  ⟨mix_length, fun x hx => by
    unfold mix at hx
    obtain ⟨i, _, rfl⟩ := List.mem_map.1 hx
    show (if i < k then _ else _) < _
    split
    · exact hf _ _ (word_lt ha i) (word_lt hb i)
    · exact word_lt ha i⟩
end
def fNot (x _y : Nat) : Nat := 18446744073709551615 - x
def fOr (x y : Nat) : Nat := x ||| y
def fAnd (x y : Nat) : Nat := x &&& y
def notL (a : List Nat) : List Nat := mix fNot a a 4
def orL (a b : List Nat) : List Nat := mix fOr a b 4
def andL (a b : List Nat) : List Nat := mix fAnd a b 4
theorem fNot_lt (x y : Nat) (_ : x < 18446744073709551616) (_ : y < 18446744073709551616) : fNot x y < 18446744073709551616 := by unfold fNot; omega
theorem fOr_lt (x y : Nat) (hx : x < 18446744073709551616) (hy : y < 18446744073709551616) : fOr x y < 18446744073709551616 := Nat.or_lt_two_pow (n := 64) hx hy
theorem fAnd_lt (x y : Nat) (_ : x < 18446744073709551616) (hy : y < 18446744073709551616) : fAnd x y < 18446744073709551616 := Nat.and_lt_two_pow (n := 64) x hy
section
variable {a b : List Nat} (ha : isSet a) (hb : isSet b)
include ha in
theorem notL_set : isSet (notL a) := mix_set ha ha fNot_lt
include ha hb in
theorem orL_set : isSet (orL a b) := mix_set ha hb fOr_lt
include ha hb in
theorem andL_set : isSet (andL a b) := mix_set ha hb fAnd_lt
include ha in
theorem has_not {c : Nat} (h : c < 256) : has (notL a) c = !has a c := by
  unfold has notL
  rw [mix_getD (by omega), if_pos (by omega)]
  have := Nat.testBit_two_pow_sub_succ (n := 64) (x := a.getD (c / 64) 0) (word_lt ha _) (c % 64)
  rw [decide_eq_true (show c % 64 < 64 by omega), Bool.true_and] at this
  rw [← this]
  congr 1
  have h2 := word_lt ha (c / 64)
  unfold fNot
  omega
theorem has_or {c : Nat} (h : c < 256) : has (orL a b) c = (has a c || has b c) := by
  unfold has orL
  rw [mix_getD (by omega), if_pos (by omega)]
  exact Nat.testBit_or _ _ _
theorem has_and {c : Nat} (h : c < 256) : has (andL a b) c = (has a c && has b c) := by
  unfold has andL
  rw [mix_getD (by omega), if_pos (by omega)]
  exact Nat.testBit_and _ _ _
include ha in
theorem not_not : notL (notL a) = a := set_ext (notL_set (notL_set ha)) ha fun c hc => by rw [has_not (notL_set ha) hc, has_not ha hc, Bool.not_not]
include ha hb in
theorem not_or : notL (orL a b) = andL (notL a) (notL b) := set_ext (notL_set (orL_set ha hb)) (andL_set (notL_set ha) (notL_set hb)) fun c hc => by
  rw [has_not (orL_set ha hb) hc, has_or hc, has_and hc, has_not ha hc, has_not hb hc, Bool.not_or]
end

/-- How many of the lowest n bits are 1. -/
def pop : Nat → Nat → Nat
  | 0, _ => 0
  | n + 1, x => x % 2 + pop n (x / 2)
theorem pop_range : ∀ n x : Nat, ((List.range n).filter (fun k => x.testBit k)).length = pop n x
  | 0, _ => rfl
  | n + 1, x => by
    rw [List.range_succ_eq_map, List.filter_cons, List.filter_map]
    have ih := pop_range n (x / 2)
    have e : (List.range n).filter ((fun k => x.testBit k) ∘ Nat.succ) = (List.range n).filter (fun k => (x / 2).testBit k) := List.filter_congr fun k _ => by
      show x.testBit (k + 1) = _
      rw [Nat.testBit_succ]
    rw [e, pop]
    have h2 : x % 2 = 0 ∨ x % 2 = 1 := by omega
    rw [Nat.testBit_zero]
    rcases h2 with h2 | h2 <;> simp [h2, ih]
    omega
/-- .. of the first k words. -/
def cntTo (a : List Nat) : Nat → Nat
  | 0 => 0
  | k + 1 => cntTo a k + pop 64 (a.getD k 0)
theorem cntTo_step (a : List Nat) (k : Nat) : cntTo a (k + 1) = cntTo a k + pop 64 (a.getD k 0) := rfl
theorem pop_le : ∀ n x : Nat, pop n x ≤ n
  | 0, _ => Nat.le_refl _
  | n + 1, x => by unfold pop; have := pop_le n (x / 2); omega
theorem cntTo_le (a : List Nat) : ∀ k, cntTo a k ≤ 64 * k
  | 0 => Nat.le_refl _
  | k + 1 => by unfold cntTo; have := cntTo_le a k; have := pop_le 64 (a.getD k 0); omega
theorem cnt_is (a : List Nat) : ∀ k, ((List.range (64 * k)).filter (has a)).length = cntTo a k
  | 0 => rfl
  | k + 1 => by
    rw [show 64 * (k + 1) = 64 * k + 64 by omega, List.range_add, List.filter_append, List.length_append, cnt_is a k, List.filter_map, List.length_map, cntTo, ← pop_range]
    congr 2
    refine List.filter_congr fun i hi => ?_
    have := List.mem_range.1 hi
    show has a (64 * k + i) = _
    unfold has
    rw [show (64 * k + i) / 64 = k by omega, show (64 * k + i) % 64 = i by omega]
theorem byt_len (a : List Nat) : (byt a).length = cntTo a 4 := cnt_is a 4

theorem and_split (n a b : Nat) : a &&& b = 2 ^ n * (a / 2 ^ n &&& b / 2 ^ n) + (a % 2 ^ n &&& b % 2 ^ n) := by
  rw [← Nat.and_div_two_pow, ← Nat.and_mod_two_pow]
  exact (Nat.div_add_mod _ _).symm
/-- A mask of k groups. -/
def msk (n c : Nat) : Nat → Nat
  | 0 => 0
  | k + 1 => 2 ^ n * msk n c k + c
theorem msk_div {n c : Nat} (h : c < 2 ^ n) (k : Nat) : msk n c (k + 1) / 2 ^ n = msk n c k := by
  rw [show msk n c (k + 1) = 2 ^ n * msk n c k + c from rfl, Nat.mul_add_div (Nat.pow_pos (by omega)), Nat.div_eq_of_lt h, Nat.add_zero]
theorem msk_mod {n c : Nat} (h : c < 2 ^ n) (k : Nat) : msk n c (k + 1) % 2 ^ n = c := by
  rw [show msk n c (k + 1) = 2 ^ n * msk n c k + c from rfl, Nat.mul_add_mod, Nat.mod_eq_of_lt h]
def f1 (k x : Nat) : Nat := (x / 2 &&& msk 4 5 k) + (x &&& msk 4 5 k)
def f2 (k x : Nat) : Nat := (x / 4 &&& msk 4 3 k) + (x &&& msk 4 3 k)
theorem and5 : ∀ r < 16, ∀ b < 2, (8 * b + r / 2) &&& 5 = (r / 2) &&& 5 := by decide
theorem and3 : ∀ r < 16, ∀ b < 4, (4 * b + r / 4) &&& 3 = (r / 4) &&& 3 := by decide
theorem g12 : ∀ r < 16, (((r / 2) &&& 5) + (r &&& 5)) < 16 ∧ (((((r / 2) &&& 5) + (r &&& 5)) / 4) &&& 3) + ((((r / 2) &&& 5) + (r &&& 5)) &&& 3) = pop 4 r := by decide
theorem f1_step (k y r : Nat) (hr : r < 16) : f1 (k + 1) (16 * y + r) = 16 * f1 k y + (((r / 2) &&& 5) + (r &&& 5)) := by
  unfold f1
  rw [and_split 4 ((16 * y + r) / 2), and_split 4 (16 * y + r), msk_div (by decide), msk_mod (by decide)]
  rw [show (16 * y + r) / 2 / 2 ^ 4 = y / 2 by omega, show (16 * y + r) / 2 % 2 ^ 4 = 8 * (y % 2) + r / 2 by omega, show (16 * y + r) / 2 ^ 4 = y by omega, show (16 * y + r) % 2 ^ 4 = r by omega, and5 r hr (y % 2) (by omega)]
  omega
theorem f2_step (k y r : Nat) (hr : r < 16) : f2 (k + 1) (16 * y + r) = 16 * f2 k y + (((r / 4) &&& 3) + (r &&& 3)) := by
  unfold f2
  rw [and_split 4 ((16 * y + r) / 4), and_split 4 (16 * y + r), msk_div (by decide), msk_mod (by decide)]
  rw [show (16 * y + r) / 4 / 2 ^ 4 = y / 4 by omega, show (16 * y + r) / 4 % 2 ^ 4 = 4 * (y % 4) + r / 4 by omega, show (16 * y + r) / 2 ^ 4 = y by omega, show (16 * y + r) % 2 ^ 4 = r by omega, and3 r hr (y % 4) (by omega)]
  omega
def F (k x : Nat) : Nat := f2 k (f1 k x)
theorem F_step (k x : Nat) : F (k + 1) x = 16 * F k (x / 16) + pop 4 (x % 16) := by
  have hr : x % 16 < 16 := by omega
  obtain ⟨h1, h2⟩ := g12 (x % 16) hr
  have e : f1 (k + 1) x = 16 * f1 k (x / 16) + ((((x % 16) / 2) &&& 5) + ((x % 16) &&& 5)) := by
    have := f1_step k (x / 16) (x % 16) hr
    rw [show 16 * (x / 16) + x % 16 = x by omega] at this
    exact this
  unfold F
  rw [e, f2_step k _ _ h1, h2]
def K (k x : Nat) : Nat := (F (2 * k) x / 16 + F (2 * k) x) &&& msk 8 15 k
theorem F_low (k x : Nat) : F k x % 16 ≤ 4 := by
  cases k with
  | zero => rw [show F 0 x = 0 by simp [F, f2, f1, msk]]; omega
  | succ k => rw [F_step]; have := pop_le 4 (x % 16); omega
theorem pop_add : ∀ m n x : Nat, pop (m + n) x = pop m x + pop n (x / 2 ^ m)
  | 0, n, x => by simp [pop]
  | m + 1, n, x => by
    rw [show m + 1 + n = m + n + 1 by omega, pop, pop, pop_add m n, Nat.pow_succ, Nat.mul_comm (2 ^ m) 2, ← Nat.div_div_eq_div_mul]
    omega
theorem pop_mod : ∀ n x : Nat, pop n (x % 2 ^ n) = pop n x
  | 0, _ => rfl
  | n + 1, x => by
    rw [pop, pop, Nat.pow_succ, show x % (2 ^ n * 2) % 2 = x % 2 from Nat.mod_mod_of_dvd _ (Nat.dvd_mul_left _ _), show x % (2 ^ n * 2) / 2 = x / 2 % 2 ^ n by rw [Nat.mul_comm, Nat.mod_mul_right_div_self], pop_mod n]
theorem K_step (k x : Nat) : K (k + 1) x = 256 * K k (x / 256) + pop 8 x := by
  unfold K
  rw [show 2 * (k + 1) = 2 * k + 1 + 1 by omega, F_step, F_step, show x / 16 / 16 = x / 256 by omega, show 8 = 4 + 4 from rfl, pop_add 4 4, ← pop_mod 4 x, ← pop_mod 4 (x / 2 ^ 4)]
  have h1 := F_low (2 * k) (x / 256)
  have h2 := pop_le 4 (x % 2 ^ 4)
  have h3 := pop_le 4 (x / 2 ^ 4 % 2 ^ 4)
  rw [show x % 16 = x % 2 ^ 4 from rfl, show x / 16 % 16 = x / 2 ^ 4 % 2 ^ 4 from rfl]
  generalize pop 4 (x % 2 ^ 4) = p at *
  generalize pop 4 (x / 2 ^ 4 % 2 ^ 4) = q at *
  generalize F (2 * k) (x / 256) = z at *
  rw [and_split 8 ((16 * (16 * z + q) + p) / 16 + (16 * (16 * z + q) + p)), msk_div (by decide), msk_mod (by decide)]
  have e1 : ((16 * (16 * z + q) + p) / 16 + (16 * (16 * z + q) + p)) / 2 ^ 8 = z / 16 + z := by omega
  have e2 : ((16 * (16 * z + q) + p) / 16 + (16 * (16 * z + q) + p)) % 2 ^ 8 % 16 = p + q := by omega
  rw [e1, show (15 : Nat) = 2 ^ 4 - 1 from rfl, Nat.and_two_pow_sub_one_eq_mod, show (2 : Nat) ^ 4 = 16 from rfl, e2]
/-- The whole of it. -/
def net (x : Nat) : Nat :=
  let x1 := (x / 2 &&& 6148914691236517205) + (x &&& 6148914691236517205)
  let x2 := (x1 / 4 &&& 3689348814741910323) + (x1 &&& 3689348814741910323)
  let x3 := (x2 / 16 + x2) &&& 1085102592571150095
  let x4 := x3 + x3 / 256
  let x5 := x4 + x4 / 65536
  x5 + x5 / 4294967296
theorem K8 (x : Nat) : ∃ b0 b1 b2 b3 b4 b5 b6 b7 : Nat, b0 ≤ 8 ∧ b1 ≤ 8 ∧ b2 ≤ 8 ∧ b3 ≤ 8 ∧ b4 ≤ 8 ∧ b5 ≤ 8 ∧ b6 ≤ 8 ∧ b7 ≤ 8
    ∧ K 8 x = b0 + 256 * (b1 + 256 * (b2 + 256 * (b3 + 256 * (b4 + 256 * (b5 + 256 * (b6 + 256 * b7)))))) ∧ pop 64 x = b0 + b1 + b2 + b3 + b4 + b5 + b6 + b7 := by
  refine ⟨_, _, _, _, _, _, _, _, pop_le 8 x, pop_le 8 (x / 256), pop_le 8 (x / 256 / 256), pop_le 8 (x / 256 / 256 / 256), pop_le 8 (x / 256 / 256 / 256 / 256), pop_le 8 (x / 256 / 256 / 256 / 256 / 256),
    pop_le 8 (x / 256 / 256 / 256 / 256 / 256 / 256), pop_le 8 (x / 256 / 256 / 256 / 256 / 256 / 256 / 256), ?_, ?_⟩
  · rw [K_step, K_step, K_step, K_step, K_step, K_step, K_step, K_step, show K 0 (x / 256 / 256 / 256 / 256 / 256 / 256 / 256 / 256) = 0 by simp [K, msk]]
    omega
  · rw [show 64 = 8 + (8 + (8 + (8 + (8 + (8 + (8 + 8)))))) from rfl, pop_add 8, pop_add 8, pop_add 8, pop_add 8, pop_add 8, pop_add 8, pop_add 8, show (2 : Nat) ^ 8 = 256 from rfl]
    omega
theorem net_is {x x1 x2 x3 x4 x5 x6 : Nat} (h1 : x1 = (x / 2 &&& 6148914691236517205) + (x &&& 6148914691236517205)) (h2 : x2 = (x1 / 4 &&& 3689348814741910323) + (x1 &&& 3689348814741910323))
    (h3 : x3 = (x2 / 16 + x2) &&& 1085102592571150095) (h4 : x4 = x3 + x3 / 256) (h5 : x5 = x4 + x4 / 65536) (h6 : x6 = x5 + x5 / 4294967296) : x6 % 128 = pop 64 x ∧ x4 < 18446744073709551616 ∧ x5 < 18446744073709551616 ∧ x6 < 9223372036854775808 := by
  have e1 : x1 = f1 16 x := by rw [h1]; rfl
  have e2 : x2 = F 16 x := by rw [h2, e1]; rfl
  have e3 : x3 = K 8 x := by rw [h3, e2]; rfl
  obtain ⟨b0, b1, b2, b3, b4, b5, b6, b7, l0, l1, l2, l3, l4, l5, l6, l7, hk, hp⟩ := K8 x
  rw [hp]
  rw [hk] at e3
  clear hk hp h1 h2 h3 e1 e2
  have e4 : x4 = b0 + b1 + 256 * (b1 + b2 + 256 * (b2 + b3 + 256 * (b3 + b4 + 256 * (b4 + b5 + 256 * (b5 + b6 + 256 * (b6 + b7 + 256 * b7)))))) := by omega
  clear h4 e3
  have e5 : x5 = b0 + b1 + b2 + b3 + 256 * (b1 + b2 + b3 + b4 + 256 * (b2 + b3 + b4 + b5 + 256 * (b3 + b4 + b5 + b6 + 256 * (b4 + b5 + b6 + b7 + 256 * (b5 + b6 + b7 + 256 * (b6 + b7 + 256 * b7)))))) := by omega
  refine ⟨?_, by omega, by omega, by omega⟩
  have e6 : x5 / 4294967296 = b4 + b5 + b6 + b7 + 256 * (b5 + b6 + b7 + 256 * (b6 + b7 + 256 * b7)) := by omega
  omega
end Go.Proofs.Ythjelilmlbbalaa.Ta
