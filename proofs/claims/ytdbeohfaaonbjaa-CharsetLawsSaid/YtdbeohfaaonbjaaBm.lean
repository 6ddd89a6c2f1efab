/-
  Bits of strings in plain numbers: the number of a list of bytes, so many bits of it from a place on, bits in the other order.
  Conditions: none but the ones that each theorem names. Nothing of the program is named here.
-/
import Derived.Test.YtdbeohfaaonbjaaVm
import Derived.PlainAid
namespace Go.Proofs.Ytdbeohfaaonbjaa.Bm
open Go.RowKit Go.Proofs.Ytdbeohfaaonbjaa.Vm

/-- The number whose bits are the bytes' bits, the first byte's lowest bit first. -/
def num : List UInt8 → Nat
  | [] => 0
  | b :: l => b.toNat + 256 * num l

theorem pow8 (n : Nat) : 2 ^ (8 * (n + 1)) = 256 * 2 ^ (8 * n) := by
  rw [show 8 * (n + 1) = 8 + 8 * n by omega, Nat.pow_add]
theorem num_append : ∀ (a b : List UInt8), num (a ++ b) = num a + 2 ^ (8 * a.length) * num b
  | [], b => by simp [num]
  | x :: a, b => by
    simp only [List.cons_append, num, List.length_cons]
    rw [num_append a b, pow8, Nat.mul_add, Nat.mul_assoc]
    omega
theorem num_lt : ∀ (l : List UInt8), num l < 2 ^ (8 * l.length)
  | [] => by simp [num]
  | x :: l => by
    have h := num_lt l
    have hx := UInt8.toNat_lt x
    simp only [num, List.length_cons]
    rw [pow8]
    omega
theorem num_split (l : List UInt8) (k : Nat) : num l = num (l.take k) + 2 ^ (8 * (l.take k).length) * num (l.drop k) := by
  rw [← num_append, List.take_append_drop]
theorem num_past (l : List UInt8) (k : Nat) (h : l.length ≤ k) : num l < 2 ^ (8 * k) :=
  Nat.lt_of_lt_of_le (num_lt l) (Nat.pow_le_pow_right (by omega) (by omega))
theorem num_drop (l : List UInt8) (k : Nat) : num (l.drop k) = num l / 2 ^ (8 * k) := by
  by_cases h : k ≤ l.length
  · have e := num_split l k
    have hl : (l.take k).length = k := by rw [List.length_take]; omega
    have hlt := num_lt (l.take k)
    rw [hl] at e hlt
    rw [e, Nat.add_mul_div_left _ _ (Nat.two_pow_pos _), Nat.div_eq_of_lt hlt]
    omega
  · rw [List.drop_eq_nil_of_le (by omega), Nat.div_eq_of_lt (num_past l k (by omega))]; rfl
theorem num_take (l : List UInt8) (k : Nat) : num (l.take k) = num l % 2 ^ (8 * k) := by
  by_cases h : k ≤ l.length
  · have e := num_split l k
    have hl : (l.take k).length = k := by rw [List.length_take]; omega
    have hlt := num_lt (l.take k)
    rw [hl] at e hlt
    rw [e, Nat.add_mul_mod_self_left, Nat.mod_eq_of_lt hlt]
  · rw [List.take_of_length_le (by omega), Nat.mod_eq_of_lt (num_past l k (by omega))]
theorem num_get (l : List UInt8) (k : Nat) (x : UInt8) (h : l[k]? = some x) : num l / 2 ^ (8 * k) % 256 = x.toNat := by
  rw [← num_drop]
  have hk : k < l.length := by
    rcases Nat.lt_or_ge k l.length with h' | h'
    · exact h'
    · rw [List.getElem?_eq_none h'] at h; cases h
  rw [List.drop_eq_getElem_cons hk]
  rw [List.getElem?_eq_getElem hk] at h
  injection h with h
  rw [h]
  have := UInt8.toNat_lt x
  simp only [num]
  omega
theorem num_inj : ∀ (a b : List UInt8), a.length = b.length → num a = num b → a = b
  | [], [], _, _ => rfl
  | [], _ :: _, h, _ => by simp at h
  | _ :: _, [], h, _ => by simp at h
  | x :: a, y :: b, h, e => by
    have hx := UInt8.toNat_lt x
    have hy := UInt8.toNat_lt y
    simp only [num] at e
    have e1 : x.toNat = y.toNat := by omega
    have e2 : num a = num b := by omega
    rw [num_inj a b (by simpa using h) e2, UInt8.toNat_inj.1 e1]

/-- n bits of N from the bit a on. -/
def peekN (N a n : Nat) : Nat := N / 2 ^ a % 2 ^ n
theorem peekN_lt (N a n : Nat) : peekN N a n < 2 ^ n := Nat.mod_lt _ (Nat.two_pow_pos _)
theorem peekN_zero (N a : Nat) : peekN N a 0 = 0 := by simp [peekN, Nat.mod_one]
theorem div_mod (N a k n : Nat) (h : a + n ≤ k) : N % 2 ^ k / 2 ^ a % 2 ^ n = N / 2 ^ a % 2 ^ n := by
  apply Nat.eq_of_testBit_eq
  intro i
  simp only [Nat.testBit_mod_two_pow, Nat.testBit_div_two_pow]
  by_cases hi : i < n
  · have : i + a < k := by omega
    simp [hi, this]
  · simp [hi]
theorem mod_div_le (n k m : Nat) (h : k ≤ m) : (n % 2 ^ m) % 2 ^ k = n % 2 ^ k := by
  apply Nat.eq_of_testBit_eq
  intro i
  simp only [Nat.testBit_mod_two_pow]
  by_cases hi : i < k
  · have : i < m := by omega
    simp [hi, this]
  · simp [hi]
/-- Parts. -/
theorem peekN_add (N a n m : Nat) : peekN N a (n + m) = peekN N a n + 2 ^ n * peekN N (a + n) m := by
  unfold peekN
  rw [Nat.pow_add 2 a n, ← Nat.div_div_eq_div_mul]
  generalize N / 2 ^ a = M
  have h1 := Nat.mod_add_div (M % 2 ^ (n + m)) (2 ^ n)
  rw [mod_div_le M n (n + m) (by omega)] at h1
  have h2 : M % 2 ^ (n + m) / 2 ^ n = M / 2 ^ n % 2 ^ m := by
    have h := div_mod M n (n + m) m (by omega)
    rw [Nat.mod_eq_of_lt] at h
    · exact h
    · refine Nat.div_lt_of_lt_mul ?_
      rw [← Nat.pow_add]
      exact Nat.mod_lt _ (Nat.two_pow_pos _)
  rw [h2] at h1
  exact h1.symm
theorem peekN_one (N a : Nat) : peekN N a 1 = N / 2 ^ a % 2 := by simp [peekN]
theorem peekN_next (N a m : Nat) : peekN N a (m + 1) = 2 * peekN N (a + 1) m + N / 2 ^ a % 2 := by
  rw [Nat.add_comm m 1, peekN_add, peekN_one]
  omega

/-- The bit of a string. -/
theorem bit_at (l : List UInt8) (i : Nat) (x : UInt8) (h : l[i / 8]? = some x) : x.toNat / 2 ^ (i % 8) % 2 = num l / 2 ^ i % 2 := by
  rw [← num_get l (i / 8) x h]
  have h1 := div_mod (num l / 2 ^ (8 * (i / 8))) (i % 8) 8 1 (by omega)
  simp only [Nat.pow_one, show (2 : Nat) ^ 8 = 256 from rfl] at h1
  rw [h1, Nat.div_div_eq_div_mul, ← Nat.pow_add, show 8 * (i / 8) + i % 8 = i by omega]
theorem bit_past (l : List UInt8) (i : Nat) (h : 8 * l.length ≤ i) : num l / 2 ^ i % 2 = 0 := by
  have : num l < 2 ^ i := Nat.lt_of_lt_of_le (num_lt l) (Nat.pow_le_pow_right (by omega) h)
  rw [Nat.div_eq_of_lt this]

/-- What a reader's loop over bytes makes. -/
def wordN (N first i : Nat) : Nat := peekN N (8 * first) (8 * i)
theorem wordN_next (l : List UInt8) (first i : Nat) (x : UInt8) (h : l[first + i]? = some x) : wordN (num l) first (i + 1) = wordN (num l) first i + x.toNat * 256 ^ i := by
  unfold wordN
  rw [show 8 * (i + 1) = 8 * i + 8 by omega, peekN_add, ← num_get l (first + i) x h, pow256, Nat.mul_comm (256 ^ i)]
  unfold peekN
  rw [show 8 * first + 8 * i = 8 * (first + i) by omega]
theorem wordN_lt (N first i : Nat) : wordN N first i < 256 ^ i := by rw [← pow256]; exact peekN_lt _ _ _
theorem word_peek (l : List UInt8) (a n cnt : Nat) (h : cnt = (a % 8 + n + 8 - 1) / 8 ∨ cnt = l.length - a / 8) :
    wordN (num l) (a / 8) cnt / 2 ^ (a % 8) % 2 ^ n = peekN (num l) a n := by
  have e : ∀ M, M = num l / 2 ^ (8 * (a / 8)) → M / 2 ^ (a % 8) % 2 ^ n = peekN (num l) a n := by
    intro M hM
    rw [hM, Nat.div_div_eq_div_mul, ← Nat.pow_add, show 8 * (a / 8) + a % 8 = a by omega]; rfl
  rcases h with h | h
  · have h1 : wordN (num l) (a / 8) cnt / 2 ^ (a % 8) % 2 ^ n = num l / 2 ^ (8 * (a / 8)) / 2 ^ (a % 8) % 2 ^ n := div_mod _ _ _ _ (by omega)
    rw [h1]; exact e _ rfl
  · have h1 : wordN (num l) (a / 8) cnt = num l / 2 ^ (8 * (a / 8)) := by
      refine Nat.mod_eq_of_lt ?_
      subst h
      rw [← num_drop]
      have := num_lt (l.drop (a / 8))
      rw [List.length_drop] at this
      exact this
    rw [h1]; exact e _ rfl

/-- The lowest n bits of v in the other order. -/
def turnN (v : Nat) : Nat → Nat
  | 0 => 0
  | n + 1 => 2 * turnN v n + v / 2 ^ n % 2
theorem turnN_lt (v : Nat) : ∀ n, turnN v n < 2 ^ n
  | 0 => by simp [turnN]
  | n + 1 => by
    have := turnN_lt v n
    simp only [turnN, Nat.pow_succ]
    omega
theorem turnN_high (v n : Nat) : ∀ k, turnN v (n + k) / 2 ^ k = turnN v n
  | 0 => by simp
  | k + 1 => by
    rw [← Nat.add_assoc]
    simp only [turnN]
    rw [Nat.pow_succ, Nat.mul_comm (2 ^ k) 2, ← Nat.div_div_eq_div_mul, show (2 * turnN v (n + k) + v / 2 ^ (n + k) % 2) / 2 = turnN v (n + k) by omega]
    exact turnN_high v n k
theorem turnN_bit (v : Nat) : ∀ (n j : Nat), (turnN v n).testBit j = (decide (j < n) && v.testBit (n - 1 - j))
  | 0, j => by simp [turnN]
  | n + 1, 0 => by
    rw [Nat.testBit_zero, Nat.testBit_eq_decide_div_mod_eq]
    simp only [turnN, Nat.add_sub_cancel, Nat.sub_zero]
    simp
  | n + 1, j + 1 => by
    rw [Nat.testBit_succ]
    simp only [turnN]
    rw [show (2 * turnN v n + v / 2 ^ n % 2) / 2 = turnN v n by omega, turnN_bit v n j]
    simp [show n - (j + 1) = n - 1 - j by omega]
theorem turnN_turnN (v n : Nat) : turnN (turnN v n) n = v % 2 ^ n := by
  apply Nat.eq_of_testBit_eq
  intro j
  rw [turnN_bit, turnN_bit, Nat.testBit_mod_two_pow]
  by_cases h : j < n
  · have h1 : n - 1 - j < n := by omega
    simp [h, h1, show n - 1 - (n - 1 - j) = j by omega]
  · simp [h]
theorem turnN_mod (v k : Nat) : ∀ n, n ≤ k → turnN (v % 2 ^ k) n = turnN v n := by
  intro n h
  apply Nat.eq_of_testBit_eq
  intro j
  rw [turnN_bit, turnN_bit, Nat.testBit_mod_two_pow]
  by_cases hj : j < n
  · have : n - 1 - j < k := by omega
    simp [hj, this]
  · simp [hj]
theorem peekN_low (v n : Nat) (h : v < 2 ^ n) : peekN v 0 n = v := by unfold peekN; rw [Nat.pow_zero, Nat.div_one, Nat.mod_eq_of_lt h]

/-- One step of a network that turns bits. -/
def swapN (k m x : Nat) : Nat := (x / 2 ^ k &&& m) ||| ((x &&& m) * 2 ^ k % 4294967296)
def swap (k j : Nat) : Nat := if j / k % 2 = 0 then j + k else j - k
theorem swapN_lt (k m x : Nat) (hm : m < 4294967296) : swapN k m x < 4294967296 :=
  Nat.or_lt_two_pow (n := 32) (Nat.lt_of_le_of_lt Nat.and_le_right hm) (Nat.mod_lt _ (by decide))
theorem swapN_bit (k m x : Nat) (hm : ∀ j, j < 32 → m.testBit j = decide (j / k % 2 = 0)) (hk : ∀ j, j < 32 → (j / k % 2 = 0 → k ≤ j → ¬ (j - k) / k % 2 = 0) ∧ (¬ j / k % 2 = 0 → k ≤ j ∧ (j - k) / k % 2 = 0)) :
    ∀ j, j < 32 → (swapN k m x).testBit j = x.testBit (swap k j) := by
  intro j hj
  unfold swapN swap
  rw [show (4294967296 : Nat) = 2 ^ 32 from rfl, Nat.testBit_or, Nat.testBit_and, Nat.testBit_mod_two_pow, Nat.testBit_mul_two_pow, Nat.testBit_and, Nat.testBit_div_two_pow, hm j hj, hm (j - k) (by omega)]
  obtain ⟨h1, h2⟩ := hk j hj
  by_cases h : j / k % 2 = 0
  · rw [if_pos h]
    by_cases hkj : k ≤ j
    · have := h1 h hkj
      simp [h, this, Nat.add_comm]
    · simp [h, hkj, Nat.add_comm]
  · obtain ⟨h3, h4⟩ := h2 h
    rw [if_neg h]
    simp [h, h3, h4, hj]
def rev8 (x : Nat) : Nat := swapN 8 16711935 x
def rev16 (x : Nat) : Nat := x / 2 ^ 16 ||| x * 2 ^ 16 % 4294967296
theorem mask1 : ∀ j : Fin 32, (1431655765 : Nat).testBit j = decide (j.1 / 1 % 2 = 0) := by decide
theorem mask2 : ∀ j : Fin 32, (858993459 : Nat).testBit j = decide (j.1 / 2 % 2 = 0) := by decide
theorem mask4 : ∀ j : Fin 32, (252645135 : Nat).testBit j = decide (j.1 / 4 % 2 = 0) := by decide
theorem mask8 : ∀ j : Fin 32, (16711935 : Nat).testBit j = decide (j.1 / 8 % 2 = 0) := by decide
theorem swaps : ∀ j : Fin 32, swap 1 (swap 2 (swap 4 (swap 8 (if j.1 < 16 then j.1 + 16 else j.1 - 16)))) = 31 - j.1 := by decide
theorem swap_lt1 : ∀ j : Fin 32, swap 8 j.1 < 32 ∧ swap 4 j.1 < 32 ∧ swap 2 j.1 < 32 := by decide
/-- All 32 bits in the other order. -/
def rev32 (x : Nat) : Nat := rev16 (swapN 8 16711935 (swapN 4 252645135 (swapN 2 858993459 (swapN 1 1431655765 x))))
theorem rev16_bit (x j : Nat) (hx : x < 4294967296) (hj : j < 32) : (rev16 x).testBit j = x.testBit (if j < 16 then j + 16 else j - 16) := by
  unfold rev16
  rw [show (4294967296 : Nat) = 2 ^ 32 from rfl, Nat.testBit_or, Nat.testBit_mod_two_pow, Nat.testBit_mul_two_pow, Nat.testBit_div_two_pow]
  by_cases h : j < 16
  · have : ¬ 16 ≤ j := by omega
    simp [h, this]
  · have h1 : 16 ≤ j := by omega
    have h2 : x.testBit (j + 16) = false := Nat.testBit_lt_two_pow (Nat.lt_of_lt_of_le hx (by
      rw [show (4294967296 : Nat) = 2 ^ 32 from rfl]; exact Nat.pow_le_pow_right (by omega) (by omega)))
    simp [h, h1, hj, h2]
theorem rev16_lt (x : Nat) (hx : x < 4294967296) : rev16 x < 4294967296 :=
  Nat.or_lt_two_pow (n := 32) (Nat.lt_of_le_of_lt (Nat.div_le_self _ _) hx) (Nat.mod_lt _ (by decide))
theorem rev32_eq (x : Nat) (_ : x < 4294967296) : rev32 x = turnN x 32 := by
  apply Nat.eq_of_testBit_eq
  intro j
  rw [turnN_bit]
  have h8 := swapN_lt 8 16711935 (swapN 4 252645135 (swapN 2 858993459 (swapN 1 1431655765 x))) (by decide)
  by_cases hj : j < 32
  · have e1 := swaps ⟨j, hj⟩
    have hq : (if j < 16 then j + 16 else j - 16) < 32 := by split <;> omega
    have l8 := (swap_lt1 ⟨_, hq⟩).1
    have l4 := (swap_lt1 ⟨_, l8⟩).2.1
    have l2 := (swap_lt1 ⟨_, l4⟩).2.2
    unfold rev32
    rw [rev16_bit _ j h8 hj]
    rw [swapN_bit 8 _ _ (fun j h => mask8 ⟨j, h⟩) (fun j h => by omega) _ hq]
    rw [swapN_bit 4 _ _ (fun j h => mask4 ⟨j, h⟩) (fun j h => by omega) _ l8]
    rw [swapN_bit 2 _ _ (fun j h => mask2 ⟨j, h⟩) (fun j h => by omega) _ l4]
    rw [swapN_bit 1 _ _ (fun j h => mask1 ⟨j, h⟩) (fun j h => by omega) _ l2]
    rw [e1]
    simp [hj]
  · unfold rev32
    rw [Nat.testBit_lt_two_pow (i := j) (Nat.lt_of_lt_of_le (rev16_lt _ h8) (by rw [show (4294967296 : Nat) = 2 ^ 32 from rfl]; exact Nat.pow_le_pow_right (by omega) (by omega)))]
    simp [hj]

theorem cast_mod32 (A : Nat) : (A : Int) % 4294967296 = ((A % 4294967296 : Nat) : Int) := by omega
/-- A step of the network in the model's words. -/
theorem swap_int (k m x : Nat) (K : Int) (hK : K = ((2 ^ k : Nat) : Int)) (hx : x < 4294967296) (hm : m < 4294967296) :
    bits .or .u32 (bits .and .u32 ((x : Int) / K) (m : Int)) (bits .and .u32 (x : Int) (m : Int) * K % 4294967296) = ((swapN k m x : Nat) : Int) := by
  subst hK
  rw [← Int.natCast_ediv, u32_and_nat _ _ (Nat.lt_of_le_of_lt (Nat.div_le_self _ _) hx) hm, u32_and_nat _ _ hx hm]
  rw [← Int.natCast_mul, cast_mod32]
  rw [u32_or_nat _ _ (Nat.lt_of_le_of_lt Nat.and_le_right hm) (Nat.mod_lt _ (by decide))]
  rfl
theorem half_int (x : Nat) (hx : x < 4294967296) : bits .or .u32 ((x : Int) / 65536) ((x : Int) * 65536 % 4294967296) = ((rev16 x : Nat) : Int) := by
  have h := u32_or_nat (x / 2 ^ 16) (x * 2 ^ 16 % 4294967296) (Nat.lt_of_le_of_lt (Nat.div_le_self _ _) hx) (Nat.mod_lt _ (by decide))
  have e1 : (x : Int) / 65536 = ((x / 2 ^ 16 : Nat) : Int) := by omega
  have e2 : (x : Int) * 65536 % 4294967296 = ((x * 2 ^ 16 % 4294967296 : Nat) : Int) := by omega
  rw [e1, e2]
  exact h

theorem and64 (X Y : Nat) (h1 : X < 9223372036854775808) (h2 : Y < 9223372036854775808) : bits .and .i64 (X : Int) (Y : Int) = ((X &&& Y : Nat) : Int) := by
  unfold bits
  have e : (BitVec.ofInt 64 (X : Int) &&& BitVec.ofInt 64 (Y : Int)).toNat = X &&& Y := by
    rw [BitVec.toNat_and, ofInt_u64 X (by omega), ofInt_u64 Y (by omega)]
  show IntKind.i64.wrap _ = _
  rw [IntWalk.i64_left]
  have h3 : X &&& Y ≤ X := Nat.and_le_left
  have h4 : wrap64 ((X &&& Y : Nat) : Int) = ((X &&& Y : Nat) : Int) := wrap64_in (by omega) (by omega)
  rw [← h4]
  exact congrArg (fun n : Nat => wrap64 (n : Int)) e
theorem ones_int (n : Nat) (h : n ≤ 32) : wrap64 (wrap64 (2 ^ n) - 1) = ((2 ^ n - 1 : Nat) : Int) := by
  have e : (2 : Int) ^ n = ((2 ^ n : Nat) : Int) := by push_cast; rfl
  have h1 : 2 ^ n ≤ 2 ^ 32 := Nat.pow_le_pow_right (by omega) h
  have h0 : 0 < 2 ^ n := Nat.two_pow_pos n
  rw [e]
  generalize 2 ^ n = M at *
  rw [wrap64_in (n := (M : Int)) (by omega) (by omega), wrap64_in (by omega) (by omega)]
  omega
/-- So many bits of a number behind a shift. -/
theorem mask_int (W q n : Nat) (hW : W < 9223372036854775808) (h : n ≤ 32) : bits .and .i64 ((W : Int) / 2 ^ q) (wrap64 (wrap64 (2 ^ n) - 1)) = ((W / 2 ^ q % 2 ^ n : Nat) : Int) := by
  have e : (W : Int) / 2 ^ q = ((W / 2 ^ q : Nat) : Int) := by simp
  have h1 : 2 ^ n ≤ 2 ^ 32 := Nat.pow_le_pow_right (by omega) h
  rw [e, ones_int n h, and64 _ _ (Nat.lt_of_le_of_lt (Nat.div_le_self _ _) hW) (by omega), Nat.and_two_pow_sub_one_eq_mod]

/-- The lowest bits of any number. -/
theorem low_bits (v : Int) (n : Nat) (h : n ≤ 32) : bits .and .i64 v (wrap64 (wrap64 (2 ^ n) - 1)) = (((v % 18446744073709551616).toNat % 2 ^ n : Nat) : Int) := by
  rw [ones_int n h]
  have h1 : 2 ^ n ≤ 2 ^ 32 := Nat.pow_le_pow_right (by omega) h
  have h0 : 0 < 2 ^ n := Nat.two_pow_pos n
  unfold bits
  have e : (BitVec.ofInt 64 v &&& BitVec.ofInt 64 ((2 ^ n - 1 : Nat) : Int)).toNat = (v % 18446744073709551616).toNat % 2 ^ n := by
    rw [BitVec.toNat_and, ofInt_u64 _ (by omega), BitVec.toNat_ofInt, show ((2 ^ 64 : Nat) : Int) = 18446744073709551616 from by decide, Nat.and_two_pow_sub_one_eq_mod]
  show IntKind.i64.wrap _ = _
  rw [IntWalk.i64_left]
  have h3 : (v % 18446744073709551616).toNat % 2 ^ n < 2 ^ n := Nat.mod_lt _ h0
  have h4 : wrap64 (((v % 18446744073709551616).toNat % 2 ^ n : Nat) : Int) = (((v % 18446744073709551616).toNat % 2 ^ n : Nat) : Int) := wrap64_in (by omega) (by omega)
  rw [← h4]
  exact congrArg (fun n : Nat => wrap64 (n : Int)) e

end Go.Proofs.Ytdbeohfaaonbjaa.Bm
