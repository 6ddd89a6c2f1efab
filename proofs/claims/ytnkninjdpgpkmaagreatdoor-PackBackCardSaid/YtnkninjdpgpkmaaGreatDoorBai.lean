/-
  Bits of strings in plain numbers: the number of a list of bytes, so many bits of it from a place on, bits in the other order.
  Prefix codes read, in numbers: which symbol the next bits begin with.
  A sliding window in lists of bytes: the last m of them, and bytes that repeat what stands d before.
  Bits that are put behind bits, in plain numbers: what a round of a writer's loop makes of its last byte.
  Tables of prefix codes in two steps, in numbers: what a lookup of fifteen bits finds, and how a table grows by a symbol.
  Conditions: as each theorem says.
-/
import Derived.Test.YtnkninjdpgpkmaaGreatDoorBag
import Derived.PlainAid
import Derived.Test.YtnkninjdpgpkmaaGreatDoorBad
namespace Go.Proofs.YtnkninjdpgpkmaaGreatDoor.Bm
open Go.RowKit Go.Proofs.YtnkninjdpgpkmaaGreatDoor.Vm

/-- The number whose bits are the bytes' bits, the first byte's lowest bit first. -/
def num : List UInt8 → Nat
  | [] => 0
  | b :: l => b.toNat + 256 * num l

theorem pow8 (n : Nat) : 2 ^ (8 * (n + 1)) = 256 * 2 ^ (8 * n) := by
  rw [show 8 * (n + 1) = 8 + 8 * n by omega, Nat.pow_add]
theorem num_append : ∀ (a b : List UInt8), num (a ++ b) = num a + 2 ^ (8 * a.length) * num b
  | [], b => by simp [num]
  | x :: a, b => by
    simp only [List.cons_append, num, List.length_cons]
    rw [num_append a b, pow8, Nat.mul_add, Nat.mul_assoc]
    omega
theorem num_lt : ∀ (l : List UInt8), num l < 2 ^ (8 * l.length)
  | [] => by simp [num]
  | x :: l => by
    have h := num_lt l
    have hx := UInt8.toNat_lt x
    simp only [num, List.length_cons]
    rw [pow8]
    omega
theorem num_split (l : List UInt8) (k : Nat) : num l = num (l.take k) + 2 ^ (8 * (l.take k).length) * num (l.drop k) := by
  rw [← num_append, List.take_append_drop]
theorem num_past (l : List UInt8) (k : Nat) (h : l.length ≤ k) : num l < 2 ^ (8 * k) :=
  Nat.lt_of_lt_of_le (num_lt l) (Nat.pow_le_pow_right (by omega) (by omega))
theorem num_drop (l : List UInt8) (k : Nat) : num (l.drop k) = num l / 2 ^ (8 * k) := by
  by_cases h : k ≤ l.length
  · have e := num_split l k
    have hl : (l.take k).length = k := by rw [List.length_take]; omega
    have hlt := num_lt (l.take k)
    rw [hl] at e hlt
    rw [e, Nat.add_mul_div_left _ _ (Nat.two_pow_pos _), Nat.div_eq_of_lt hlt]
    omega
  · rw [List.drop_eq_nil_of_le (by omega), Nat.div_eq_of_lt (num_past l k (by omega))]; rfl
theorem num_take (l : List UInt8) (k : Nat) : num (l.take k) = num l % 2 ^ (8 * k) := by
  by_cases h : k ≤ l.length
  · have e := num_split l k
    have hl : (l.take k).length = k := by rw [List.length_take]; omega
    have hlt := num_lt (l.take k)
    rw [hl] at e hlt
    rw [e, Nat.add_mul_mod_self_left, Nat.mod_eq_of_lt hlt]
  · rw [List.take_of_length_le (by omega), Nat.mod_eq_of_lt (num_past l k (by omega))]
theorem num_get (l : List UInt8) (k : Nat) (x : UInt8) (h : l[k]? = some x) : num l / 2 ^ (8 * k) % 256 = x.toNat := by
  rw [← num_drop]
  have hk : k < l.length := by
    rcases Nat.lt_or_ge k l.length with h' | h'
    · exact h'
    · rw [List.getElem?_eq_none h'] at h; cases h
  rw [List.drop_eq_getElem_cons hk]
  rw [List.getElem?_eq_getElem hk] at h
  injection h with h
  rw [h]
  have := UInt8.toNat_lt x
  simp only [num]
  omega
theorem num_inj : ∀ (a b : List UInt8), a.length = b.length → num a = num b → a = b
  | [], [], _, _ => rfl
  | [], _ :: _, h, _ => by simp at h
  | _ :: _, [], h, _ => by simp at h
  | x :: a, y :: b, h, e => by
    have hx := UInt8.toNat_lt x
    have hy := UInt8.toNat_lt y
    simp only [num] at e
    have e1 : x.toNat = y.toNat := by omega
    have e2 : num a = num b := by omega
    rw [num_inj a b (by simpa using h) e2, UInt8.toNat_inj.1 e1]

/-- n bits of N from the bit a on. -/
def peekN (N a n : Nat) : Nat := N / 2 ^ a % 2 ^ n
theorem peekN_lt (N a n : Nat) : peekN N a n < 2 ^ n := Nat.mod_lt _ (Nat.two_pow_pos _)
theorem peekN_zero (N a : Nat) : peekN N a 0 = 0 := by simp [peekN, Nat.mod_one]
theorem div_mod (N a k n : Nat) (h : a + n ≤ k) : N % 2 ^ k / 2 ^ a % 2 ^ n = N / 2 ^ a % 2 ^ n := by
  apply Nat.eq_of_testBit_eq
  intro i
  simp only [Nat.testBit_mod_two_pow, Nat.testBit_div_two_pow]
  by_cases hi : i < n
  · have : i + a < k := by omega
    simp [hi, this]
  · simp [hi]
theorem mod_div_le (n k m : Nat) (h : k ≤ m) : (n % 2 ^ m) % 2 ^ k = n % 2 ^ k := by
  apply Nat.eq_of_testBit_eq
  intro i
  simp only [Nat.testBit_mod_two_pow]
  by_cases hi : i < k
  · have : i < m := by omega
    simp [hi, this]
  · simp [hi]
/-- Parts. -/
theorem peekN_add (N a n m : Nat) : peekN N a (n + m) = peekN N a n + 2 ^ n * peekN N (a + n) m := by
  unfold peekN
  rw [Nat.pow_add 2 a n, ← Nat.div_div_eq_div_mul]
  generalize N / 2 ^ a = M
  have h1 := Nat.mod_add_div (M % 2 ^ (n + m)) (2 ^ n)
  rw [mod_div_le M n (n + m) (by omega)] at h1
  have h2 : M % 2 ^ (n + m) / 2 ^ n = M / 2 ^ n % 2 ^ m := by
    have h := div_mod M n (n + m) m (by omega)
    rw [Nat.mod_eq_of_lt] at h
    · exact h
    · refine Nat.div_lt_of_lt_mul ?_
      rw [← Nat.pow_add]
      exact Nat.mod_lt _ (Nat.two_pow_pos _)
  rw [h2] at h1
  exact h1.symm
theorem peekN_one (N a : Nat) : peekN N a 1 = N / 2 ^ a % 2 := by simp [peekN]
theorem peekN_next (N a m : Nat) : peekN N a (m + 1) = 2 * peekN N (a + 1) m + N / 2 ^ a % 2 := by
  rw [Nat.add_comm m 1, peekN_add, peekN_one]
  omega

/-- The bit of a string. -/
theorem bit_at (l : List UInt8) (i : Nat) (x : UInt8) (h : l[i / 8]? = some x) : x.toNat / 2 ^ (i % 8) % 2 = num l / 2 ^ i % 2 := by
  rw [← num_get l (i / 8) x h]
  have h1 := div_mod (num l / 2 ^ (8 * (i / 8))) (i % 8) 8 1 (by omega)
  simp only [Nat.pow_one, show (2 : Nat) ^ 8 = 256 from rfl] at h1
  rw [h1, Nat.div_div_eq_div_mul, ← Nat.pow_add, show 8 * (i / 8) + i % 8 = i by omega]
theorem bit_past (l : List UInt8) (i : Nat) (h : 8 * l.length ≤ i) : num l / 2 ^ i % 2 = 0 := by
  have : num l < 2 ^ i := Nat.lt_of_lt_of_le (num_lt l) (Nat.pow_le_pow_right (by omega) h)
  rw [Nat.div_eq_of_lt this]

/-- What a reader's loop over bytes makes. -/
def wordN (N first i : Nat) : Nat := peekN N (8 * first) (8 * i)
theorem wordN_next (l : List UInt8) (first i : Nat) (x : UInt8) (h : l[first + i]? = some x) : wordN (num l) first (i + 1) = wordN (num l) first i + x.toNat * 256 ^ i := by
  unfold wordN
  rw [show 8 * (i + 1) = 8 * i + 8 by omega, peekN_add, ← num_get l (first + i) x h, pow256, Nat.mul_comm (256 ^ i)]
  unfold peekN
  rw [show 8 * first + 8 * i = 8 * (first + i) by omega]
theorem wordN_lt (N first i : Nat) : wordN N first i < 256 ^ i := by rw [← pow256]; exact peekN_lt _ _ _
theorem word_peek (l : List UInt8) (a n cnt : Nat) (h : cnt = (a % 8 + n + 8 - 1) / 8 ∨ cnt = l.length - a / 8) :
    wordN (num l) (a / 8) cnt / 2 ^ (a % 8) % 2 ^ n = peekN (num l) a n := by
  have e : ∀ M, M = num l / 2 ^ (8 * (a / 8)) → M / 2 ^ (a % 8) % 2 ^ n = peekN (num l) a n := by
    intro M hM
    rw [hM, Nat.div_div_eq_div_mul, ← Nat.pow_add, show 8 * (a / 8) + a % 8 = a by omega]; rfl
  rcases h with h | h
  · have h1 : wordN (num l) (a / 8) cnt / 2 ^ (a % 8) % 2 ^ n = num l / 2 ^ (8 * (a / 8)) / 2 ^ (a % 8) % 2 ^ n := div_mod _ _ _ _ (by omega)
    rw [h1]; exact e _ rfl
  · have h1 : wordN (num l) (a / 8) cnt = num l / 2 ^ (8 * (a / 8)) := by
      refine Nat.mod_eq_of_lt ?_
      subst h
      rw [← num_drop]
      have := num_lt (l.drop (a / 8))
      rw [List.length_drop] at this
      exact this
    rw [h1]; exact e _ rfl

/-- The lowest n bits of v in the other order. -/
def turnN (v : Nat) : Nat → Nat
  | 0 => 0
  | n + 1 => 2 * turnN v n + v / 2 ^ n % 2
theorem turnN_lt (v : Nat) : ∀ n, turnN v n < 2 ^ n
  | 0 => by simp [turnN]
  | n + 1 => by
    have := turnN_lt v n
    simp only [turnN, Nat.pow_succ]
    omega
theorem turnN_high (v n : Nat) : ∀ k, turnN v (n + k) / 2 ^ k = turnN v n
  | 0 => by simp
  | k + 1 => by
    rw [← Nat.add_assoc]
    simp only [turnN]
    rw [Nat.pow_succ, Nat.mul_comm (2 ^ k) 2, ← Nat.div_div_eq_div_mul, show (2 * turnN v (n + k) + v / 2 ^ (n + k) % 2) / 2 = turnN v (n + k) by omega]
    exact turnN_high v n k
theorem turnN_bit (v : Nat) : ∀ (n j : Nat), (turnN v n).testBit j = (decide (j < n) && v.testBit (n - 1 - j))
  | 0, j => by simp [turnN]
  | n + 1, 0 => by
    rw [Nat.testBit_zero, Nat.testBit_eq_decide_div_mod_eq]
    simp only [turnN, Nat.add_sub_cancel, Nat.sub_zero]
    simp
  | n + 1, j + 1 => by
    rw [Nat.testBit_succ]
    simp only [turnN]
    rw [show (2 * turnN v n + v / 2 ^ n % 2) / 2 = turnN v n by omega, turnN_bit v n j]
    simp [show n - (j + 1) = n - 1 - j by omega]
theorem turnN_turnN (v n : Nat) : turnN (turnN v n) n = v % 2 ^ n := by
  apply Nat.eq_of_testBit_eq
  intro j
  rw [turnN_bit, turnN_bit, Nat.testBit_mod_two_pow]
  by_cases h : j < n
  · have h1 : n - 1 - j < n := by omega
    simp [h, h1, show n - 1 - (n - 1 - j) = j by omega]
  · simp [h]
theorem turnN_mod (v k : Nat) : ∀ n, n ≤ k → turnN (v % 2 ^ k) n = turnN v n := by
  intro n h
  apply Nat.eq_of_testBit_eq
  intro j
  rw [turnN_bit, turnN_bit, Nat.testBit_mod_two_pow]
  by_cases hj : j < n
  · have : n - 1 - j < k := by omega
    simp [hj, this]
  · simp [hj]
theorem peekN_low (v n : Nat) (h : v < 2 ^ n) : peekN v 0 n = v := by unfold peekN; rw [Nat.pow_zero, Nat.div_one, Nat.mod_eq_of_lt h]

/-- One step of a network that turns bits. -/
def swapN (k m x : Nat) : Nat := (x / 2 ^ k &&& m) ||| ((x &&& m) * 2 ^ k % 4294967296)
def swap (k j : Nat) : Nat := if j / k % 2 = 0 then j + k else j - k
theorem swapN_lt (k m x : Nat) (hm : m < 4294967296) : swapN k m x < 4294967296 :=
  Nat.or_lt_two_pow (n := 32) (Nat.lt_of_le_of_lt Nat.and_le_right hm) (Nat.mod_lt _ (by decide))
theorem swapN_bit (k m x : Nat) (hm : ∀ j, j < 32 → m.testBit j = decide (j / k % 2 = 0)) (hk : ∀ j, j < 32 → (j / k % 2 = 0 → k ≤ j → ¬ (j - k) / k % 2 = 0) ∧ (¬ j / k % 2 = 0 → k ≤ j ∧ (j - k) / k % 2 = 0)) :
    ∀ j, j < 32 → (swapN k m x).testBit j = x.testBit (swap k j) := by
  intro j hj
  unfold swapN swap
  rw [show (4294967296 : Nat) = 2 ^ 32 from rfl, Nat.testBit_or, Nat.testBit_and, Nat.testBit_mod_two_pow, Nat.testBit_mul_two_pow, Nat.testBit_and, Nat.testBit_div_two_pow, hm j hj, hm (j - k) (by omega)]
  obtain ⟨h1, h2⟩ := hk j hj
  by_cases h : j / k % 2 = 0
  · rw [if_pos h]
    by_cases hkj : k ≤ j
    · have := h1 h hkj
      simp [h, this, Nat.add_comm]
    · simp [h, hkj, Nat.add_comm]
  · obtain ⟨h3, h4⟩ := h2 h
    rw [if_neg h]
    simp [h, h3, h4, hj]
def rev8 (x : Nat) : Nat := swapN 8 16711935 x
def rev16 (x : Nat) : Nat := x / 2 ^ 16 ||| x * 2 ^ 16 % 4294967296
theorem mask1 : ∀ j : Fin 32, (1431655765 : Nat).testBit j = decide (j.1 / 1 % 2 = 0) := by decide
theorem mask2 : ∀ j : Fin 32, (858993459 : Nat).testBit j = decide (j.1 / 2 % 2 = 0) := by decide
theorem mask4 : ∀ j : Fin 32, (252645135 : Nat).testBit j = decide (j.1 / 4 % 2 = 0) := by decide
theorem mask8 : ∀ j : Fin 32, (16711935 : Nat).testBit j = decide (j.1 / 8 % 2 = 0) := by decide
theorem swaps : ∀ j : Fin 32, swap 1 (swap 2 (swap 4 (swap 8 (if j.1 < 16 then j.1 + 16 else j.1 - 16)))) = 31 - j.1 := by decide
theorem swap_lt1 : ∀ j : Fin 32, swap 8 j.1 < 32 ∧ swap 4 j.1 < 32 ∧ swap 2 j.1 < 32 := by decide
/-- All 32 bits in the other order. -/
def rev32 (x : Nat) : Nat := rev16 (swapN 8 16711935 (swapN 4 252645135 (swapN 2 858993459 (swapN 1 1431655765 x))))
theorem rev16_bit (x j : Nat) (hx : x < 4294967296) (hj : j < 32) : (rev16 x).testBit j = x.testBit (if j < 16 then j + 16 else j - 16) := by
  unfold rev16
  rw [show (4294967296 : Nat) = 2 ^ 32 from rfl, Nat.testBit_or, Nat.testBit_mod_two_pow, Nat.testBit_mul_two_pow, Nat.testBit_div_two_pow]
  by_cases h : j < 16
  · have : ¬ 16 ≤ j := by omega
    simp [h, this]
  · have h1 : 16 ≤ j := by omega
    have h2 : x.testBit (j + 16) = false := Nat.testBit_lt_two_pow (Nat.lt_of_lt_of_le hx (by
      rw [show (4294967296 : Nat) = 2 ^ 32 from rfl]; exact Nat.pow_le_pow_right (by omega) (by omega)))
    simp [h, h1, hj, h2]
theorem rev16_lt (x : Nat) (hx : x < 4294967296) : rev16 x < 4294967296 :=
  Nat.or_lt_two_pow (n := 32) (Nat.lt_of_le_of_lt (Nat.div_le_self _ _) hx) (Nat.mod_lt _ (by decide))
theorem rev32_eq (x : Nat) (_ : x < 4294967296) : rev32 x = turnN x 32 := by
  apply Nat.eq_of_testBit_eq
  intro j
  rw [turnN_bit]
  have h8 := swapN_lt 8 16711935 (swapN 4 252645135 (swapN 2 858993459 (swapN 1 1431655765 x))) (by decide)
  by_cases hj : j < 32
  · have e1 := swaps ⟨j, hj⟩
    have hq : (if j < 16 then j + 16 else j - 16) < 32 := by split <;> omega
    have l8 := (swap_lt1 ⟨_, hq⟩).1
    have l4 := (swap_lt1 ⟨_, l8⟩).2.1
    have l2 := (swap_lt1 ⟨_, l4⟩).2.2
    unfold rev32
    rw [rev16_bit _ j h8 hj]
    rw [swapN_bit 8 _ _ (fun j h => mask8 ⟨j, h⟩) (fun j h => by omega) _ hq]
    rw [swapN_bit 4 _ _ (fun j h => mask4 ⟨j, h⟩) (fun j h => by omega) _ l8]
    rw [swapN_bit 2 _ _ (fun j h => mask2 ⟨j, h⟩) (fun j h => by omega) _ l4]
    rw [swapN_bit 1 _ _ (fun j h => mask1 ⟨j, h⟩) (fun j h => by omega) _ l2]
    rw [e1]
    simp [hj]
  · unfold rev32
    rw [Nat.testBit_lt_two_pow (i := j) (Nat.lt_of_lt_of_le (rev16_lt _ h8) (by rw [show (4294967296 : Nat) = 2 ^ 32 from rfl]; exact Nat.pow_le_pow_right (by omega) (by omega)))]
    simp [hj]

theorem cast_mod32 (A : Nat) : (A : Int) % 4294967296 = ((A % 4294967296 : Nat) : Int) := by omega
/-- A step of the network in the model's words. -/
theorem swap_int (k m x : Nat) (K : Int) (hK : K = ((2 ^ k : Nat) : Int)) (hx : x < 4294967296) (hm : m < 4294967296) :
    bits .or .u32 (bits .and .u32 ((x : Int) / K) (m : Int)) (bits .and .u32 (x : Int) (m : Int) * K % 4294967296) = ((swapN k m x : Nat) : Int) := by
  subst hK
  rw [← Int.natCast_ediv, u32_and_nat _ _ (Nat.lt_of_le_of_lt (Nat.div_le_self _ _) hx) hm, u32_and_nat _ _ hx hm]
  rw [← Int.natCast_mul, cast_mod32]
  rw [u32_or_nat _ _ (Nat.lt_of_le_of_lt Nat.and_le_right hm) (Nat.mod_lt _ (by decide))]
  rfl
theorem half_int (x : Nat) (hx : x < 4294967296) : bits .or .u32 ((x : Int) / 65536) ((x : Int) * 65536 % 4294967296) = ((rev16 x : Nat) : Int) := by
  have h := u32_or_nat (x / 2 ^ 16) (x * 2 ^ 16 % 4294967296) (Nat.lt_of_le_of_lt (Nat.div_le_self _ _) hx) (Nat.mod_lt _ (by decide))
  have e1 : (x : Int) / 65536 = ((x / 2 ^ 16 : Nat) : Int) := by omega
  have e2 : (x : Int) * 65536 % 4294967296 = ((x * 2 ^ 16 % 4294967296 : Nat) : Int) := by omega
  rw [e1, e2]
  exact h

theorem and64 (X Y : Nat) (h1 : X < 9223372036854775808) (h2 : Y < 9223372036854775808) : bits .and .i64 (X : Int) (Y : Int) = ((X &&& Y : Nat) : Int) := by
  unfold bits
  have e : (BitVec.ofInt 64 (X : Int) &&& BitVec.ofInt 64 (Y : Int)).toNat = X &&& Y := by
    rw [BitVec.toNat_and, ofInt_u64 X (by omega), ofInt_u64 Y (by omega)]
  show IntKind.i64.wrap _ = _
  rw [IntWalk.i64_left]
  have h3 : X &&& Y ≤ X := Nat.and_le_left
  have h4 : wrap64 ((X &&& Y : Nat) : Int) = ((X &&& Y : Nat) : Int) := wrap64_in (by omega) (by omega)
  rw [← h4]
  exact congrArg (fun n : Nat => wrap64 (n : Int)) e
theorem ones_int (n : Nat) (h : n ≤ 32) : wrap64 (wrap64 (2 ^ n) - 1) = ((2 ^ n - 1 : Nat) : Int) := by
  have e : (2 : Int) ^ n = ((2 ^ n : Nat) : Int) := by push_cast; rfl
  have h1 : 2 ^ n ≤ 2 ^ 32 := Nat.pow_le_pow_right (by omega) h
  have h0 : 0 < 2 ^ n := Nat.two_pow_pos n
  rw [e]
  generalize 2 ^ n = M at *
  rw [wrap64_in (n := (M : Int)) (by omega) (by omega), wrap64_in (by omega) (by omega)]
  omega
/-- So many bits of a number behind a shift. -/
theorem mask_int (W q n : Nat) (hW : W < 9223372036854775808) (h : n ≤ 32) : bits .and .i64 ((W : Int) / 2 ^ q) (wrap64 (wrap64 (2 ^ n) - 1)) = ((W / 2 ^ q % 2 ^ n : Nat) : Int) := by
  have e : (W : Int) / 2 ^ q = ((W / 2 ^ q : Nat) : Int) := by simp
  have h1 : 2 ^ n ≤ 2 ^ 32 := Nat.pow_le_pow_right (by omega) h
  rw [e, ones_int n h, and64 _ _ (Nat.lt_of_le_of_lt (Nat.div_le_self _ _) hW) (by omega), Nat.and_two_pow_sub_one_eq_mod]

/-- The lowest bits of any number. -/
theorem low_bits (v : Int) (n : Nat) (h : n ≤ 32) : bits .and .i64 v (wrap64 (wrap64 (2 ^ n) - 1)) = (((v % 18446744073709551616).toNat % 2 ^ n : Nat) : Int) := by
  rw [ones_int n h]
  have h1 : 2 ^ n ≤ 2 ^ 32 := Nat.pow_le_pow_right (by omega) h
  have h0 : 0 < 2 ^ n := Nat.two_pow_pos n
  unfold bits
  have e : (BitVec.ofInt 64 v &&& BitVec.ofInt 64 ((2 ^ n - 1 : Nat) : Int)).toNat = (v % 18446744073709551616).toNat % 2 ^ n := by
    rw [BitVec.toNat_and, ofInt_u64 _ (by omega), BitVec.toNat_ofInt, show ((2 ^ 64 : Nat) : Int) = 18446744073709551616 from by decide, Nat.and_two_pow_sub_one_eq_mod]
  show IntKind.i64.wrap _ = _
  rw [IntWalk.i64_left]
  have h3 : (v % 18446744073709551616).toNat % 2 ^ n < 2 ^ n := Nat.mod_lt _ h0
  have h4 : wrap64 (((v % 18446744073709551616).toNat % 2 ^ n : Nat) : Int) = (((v % 18446744073709551616).toNat % 2 ^ n : Nat) : Int) := wrap64_in (by omega) (by omega)
  rw [← h4]
  exact congrArg (fun n : Nat => wrap64 (n : Int)) e

end Go.Proofs.YtnkninjdpgpkmaaGreatDoor.Bm
namespace Go.Proofs.YtnkninjdpgpkmaaGreatDoor.Pm
open Go.Proofs.YtnkninjdpgpkmaaGreatDoor.Bm Go.Proofs.YtnkninjdpgpkmaaGreatDoor.Nm Go.Proofs.YtnkninjdpgpkmaaGreatDoor.Nw

/-- The next n bits of N from place a on, the first bit highest. -/
def hi (N a n : Nat) : Nat := turnN (N / 2 ^ a) n
theorem hi_zero (N a : Nat) : hi N a 0 = 0 := rfl
theorem hi_next (N a n : Nat) : hi N a (n + 1) = 2 * hi N a n + N / 2 ^ (a + n) % 2 := by
  unfold hi
  rw [turnN, Nat.div_div_eq_div_mul, ← Nat.pow_add]
theorem hi_lt (N a n : Nat) : hi N a n < 2 ^ n := turnN_lt _ _
theorem hi_peek (N a n : Nat) : turnN (peekN N a n) n = hi N a n := turnN_mod _ _ _ (Nat.le_refl _)
theorem hi_cut (N a : Nat) {n : Nat} (h : n ≤ 15) : hi N a 15 / 2 ^ (15 - n) = hi N a n := by
  have := turnN_high (N / 2 ^ a) n (15 - n)
  rw [show n + (15 - n) = 15 by omega] at this
  exact this
/-- Symbol i's code stands at place a. -/
def reads (l : List Nat) (N a i : Nat) : Prop := hit l (hi N a 15) i
theorem reads_iff {l : List Nat} (h15 : ∀ i, nth l i ≤ 15) (N a i : Nat) : reads l N a i ↔ 0 < nth l i ∧ code l i = hi N a (nth l i) := by
  unfold reads hit
  rw [hi_cut N a (h15 i)]
  constructor
  · exact fun h => ⟨h.1, h.2.symm⟩
  · exact fun h => ⟨h.1, h.2.symm⟩
theorem reads_one {l : List Nat} {N a i k : Nat} (h15 : ∀ i, nth l i ≤ 15) (hi' : i < l.length) (hk : k < l.length) (x : reads l N a i) (y : reads l N a k) : i = k := hit_one h15 hi' hk x y
open Classical in
/-- The symbol that is read where so many bits are left. -/
noncomputable def got (l : List Nat) (N a left : Nat) : Option Nat := if h : ∃ i, i < l.length ∧ reads l N a i ∧ nth l i ≤ left then some h.choose else none
theorem got_some {l : List Nat} {N a left i : Nat} (h15 : ∀ i, nth l i ≤ 15) (hi' : i < l.length) (h : reads l N a i) (hl : nth l i ≤ left) : got l N a left = some i := by
  have ex : ∃ i, i < l.length ∧ reads l N a i ∧ nth l i ≤ left := ⟨i, hi', h, hl⟩
  unfold got
  rw [dif_pos ex]
  have := ex.choose_spec
  rw [reads_one h15 this.1 hi' this.2.1 h]
theorem got_none {l : List Nat} {N a left : Nat} (h : ∀ i, i < l.length → reads l N a i → ¬ nth l i ≤ left) : got l N a left = none := by
  unfold got
  rw [dif_neg]
  rintro ⟨i, h1, h2, h3⟩
  exact h i h1 h2 h3
theorem got_cases {l : List Nat} (h15 : ∀ i, nth l i ≤ 15) (N a left : Nat) : (∃ i, i < l.length ∧ reads l N a i ∧ nth l i ≤ left ∧ got l N a left = some i) ∨ ((∀ i, i < l.length → reads l N a i → ¬ nth l i ≤ left) ∧ got l N a left = none) := by
  by_cases h : ∃ i, i < l.length ∧ reads l N a i ∧ nth l i ≤ left
  · obtain ⟨i, h1, h2, h3⟩ := h
    exact .inl ⟨i, h1, h2, h3, got_some h15 h1 h2 h3⟩
  · have : ∀ i, i < l.length → reads l N a i → ¬ nth l i ≤ left := fun i a b c => h ⟨i, a, b, c⟩
    exact .inr ⟨this, got_none this⟩
/-- What Read answers, and how far it goes. -/
noncomputable def gotS (l : List Nat) (N a left : Nat) : Int := match got l N a left with | some i => (i : Int) | none => 0
noncomputable def gotE (l : List Nat) (N a left : Nat) : Int := match got l N a left with | some _ => 0 | none => if left < 15 then 2 else 9
noncomputable def gotA (l : List Nat) (N a left : Nat) : Nat := match got l N a left with | some i => a + nth l i | none => a
end Go.Proofs.YtnkninjdpgpkmaaGreatDoor.Pm
namespace Go.Proofs.YtnkninjdpgpkmaaGreatDoor.Wm

section
variable {α : Type}
/-- The last m. -/
def lastN (m : Nat) (l : List α) : List α := l.drop (l.length - m)
theorem lastN_length (m : Nat) (l : List α) : (lastN m l).length = min m l.length := by simp [lastN]; omega
theorem lastN_all {m : Nat} {l : List α} (h : l.length ≤ m) : lastN m l = l := by unfold lastN; rw [show l.length - m = 0 by omega, List.drop_zero]
theorem lastN_zero (l : List α) : lastN 0 l = [] := by simp [lastN]
/-- What was cut off already makes no difference. -/
theorem lastN_cut (m : Nat) (a b : List α) : lastN m (lastN m a ++ b) = lastN m (a ++ b) := by
  unfold lastN
  by_cases h : a.length ≤ m
  · rw [show a.length - m = 0 by omega, List.drop_zero]
  · have e : (a.drop (a.length - m) ++ b) = (a ++ b).drop (a.length - m) := by rw [List.drop_append_of_le_length (by omega)]
    rw [e, List.drop_drop]
    congr 1
    simp only [List.length_drop, List.length_append]
    omega
theorem lastN_right {m : Nat} {a b : List α} (h : m ≤ b.length) : lastN m (a ++ b) = lastN m b := by
  unfold lastN
  rw [List.drop_append, List.drop_eq_nil_of_le (by simp; omega), List.nil_append]
  congr 1
  simp; omega
theorem lastN_lastN (k m : Nat) (l : List α) : lastN k (lastN m l) = lastN (min k m) l := by
  unfold lastN
  rw [List.drop_drop]
  congr 1
  simp only [List.length_drop]
  omega
/-- From the end on. -/
theorem lastN_get {m : Nat} {l : List α} {j : Nat} (h2 : j ≤ m) (h3 : j ≤ l.length) : (lastN m l)[(lastN m l).length - j]? = l[l.length - j]? := by
  rw [lastN_length]
  unfold lastN
  rw [List.getElem?_drop]
  congr 1
  omega
end

/-- Bytes that are put behind. -/
def put (m : Nat) (c s : List UInt8) : List UInt8 := lastN m (c ++ s)
theorem put_put (m : Nat) (c s t : List UInt8) : put m (put m c s) t = put m c (s ++ t) := by
  unfold put; rw [lastN_cut, List.append_assoc]
theorem put_length (m : Nat) (c s : List UInt8) : (put m c s).length = min m (c.length + s.length) := by unfold put; rw [lastN_length, List.length_append]
/-- A text so many times. -/
def again (s : List UInt8) : Nat → List UInt8
  | 0 => []
  | n + 1 => again s n ++ s
theorem again_length (s : List UInt8) (n : Nat) : (again s n).length = n * s.length := by
  induction n with
  | zero => simp [again]
  | succ n ih => rw [again, List.length_append, ih, Nat.add_mul, Nat.one_mul]
theorem put_again (m : Nat) (s : List UInt8) (n : Nat) : put m (lastN m (again s n)) s = lastN m (again s (n + 1)) := by
  unfold put; rw [lastN_cut]; rfl

/-- n bytes more, each of them the one d before. -/
def ext (c : List UInt8) (d : Nat) : Nat → List UInt8
  | 0 => c
  | k + 1 => ext c d k ++ [(ext c d k).getD ((ext c d k).length - d) 0]
theorem ext_length (c : List UInt8) (d k : Nat) : (ext c d k).length = c.length + k := by
  induction k with
  | zero => rfl
  | succ k ih => rw [ext, List.length_append, ih]; simp; omega
/-- The bytes that were made. -/
def out (c : List UInt8) (d k : Nat) : List UInt8 := (ext c d k).drop c.length
theorem ext_out (c : List UInt8) (d : Nat) : ∀ k, ext c d k = c ++ out c d k
  | 0 => by simp [out, ext]
  | k + 1 => by
    have ih := ext_out c d k
    unfold out
    have e : (ext c d (k + 1)).take c.length = c := by
      rw [ext, List.take_append_of_le_length (by rw [ext_length]; omega), ih, List.take_append_of_le_length (Nat.le_refl _), List.take_length]
    conv => lhs; rw [← List.take_append_drop c.length (ext c d (k + 1)), e]
theorem out_length (c : List UInt8) (d k : Nat) : (out c d k).length = k := by unfold out; rw [List.length_drop, ext_length]; omega
theorem out_next (c : List UInt8) (d k : Nat) : out c d (k + 1) = out c d k ++ [(ext c d k).getD (c.length + k - d) 0] := by
  have h1 := ext_out c d (k + 1)
  rw [ext, ext_length] at h1
  conv at h1 => lhs; lhs; rw [ext_out c d k]
  rw [List.append_assoc] at h1
  exact (List.append_cancel_left h1).symm
theorem ext_keep (c : List UInt8) (d : Nat) {i k : Nat} (h : i < c.length + k) : (ext c d (k + 1))[i]? = (ext c d k)[i]? := by
  rw [ext, List.getElem?_append_left (by rw [ext_length]; exact h)]
/-- Each is the byte d before it. -/
theorem ext_at {c : List UInt8} {d : Nat} (hd : 1 ≤ d) (hc : d ≤ c.length) : ∀ {i k : Nat}, c.length ≤ i → i < c.length + k → (ext c d k)[i]? = (ext c d k)[i - d]?
  | i, 0, h1, h2 => by omega
  | i, k + 1, h1, h2 => by
    by_cases h : i < c.length + k
    · rw [ext_keep c d h, ext_keep c d (by omega)]
      exact ext_at hd hc h1 h
    · have hi : i = c.length + k := by omega
      have hl : i = (ext c d k).length := by rw [ext_length]; exact hi
      rw [ext_keep c d (show i - d < c.length + k by omega), ext, List.getElem?_append_right (by omega), hl, Nat.sub_self]
      have hlt : (ext c d k).length - d < (ext c d k).length := by rw [ext_length]; omega
      simp [List.getD_eq_getElem?_getD, List.getElem?_eq_getElem hlt]
/-- No other list has that. -/
theorem ext_only {c : List UInt8} {d : Nat} (hd : 1 ≤ d) (hc : d ≤ c.length) : ∀ {k : Nat} {l : List UInt8}, l.length = c.length + k → l.take c.length = c → (∀ i, c.length ≤ i → i < l.length → l[i]? = l[i - d]?) → l = ext c d k
  | 0, l, h1, h2, _ => by
    rw [← h2, List.take_of_length_le (by omega)]; rfl
  | k + 1, l, h1, h2, h3 => by
    have hr : l.take (c.length + k) = ext c d k := by
      refine ext_only hd hc (by rw [List.length_take]; omega) ?_ (fun i hi hlt => ?_)
      · rw [List.take_take, Nat.min_eq_left (by omega)]; exact h2
      · rw [List.length_take] at hlt
        rw [List.getElem?_take, List.getElem?_take, if_pos (by omega), if_pos (by omega)]
        exact h3 i hi (by omega)
    have hlast : l.drop (c.length + k) = [(ext c d k).getD ((ext c d k).length - d) 0] := by
      have hlt : c.length + k < l.length := by omega
      rw [List.drop_eq_getElem_cons hlt, List.drop_eq_nil_of_le (by omega)]
      congr 1
      have e := h3 (c.length + k) (by omega) hlt
      rw [List.getElem?_eq_getElem hlt] at e
      rw [ext_length, ← hr, List.getD_eq_getElem?_getD, List.getElem?_take, if_pos (by omega), ← e]
      rfl
    rw [ext, ← hlast, ← hr, List.take_append_drop]
/-- Copy with d = 1 repeats the last byte. -/
theorem out_one {c : List UInt8} (hc : 1 ≤ c.length) : ∀ k, out c 1 k = List.replicate k (c.getD (c.length - 1) 0)
  | 0 => by simp [out, ext]
  | k + 1 => by
    rw [out_next, out_one hc k, List.replicate_succ']
    congr 2
    rw [ext_out, List.getD_eq_getElem?_getD, List.getD_eq_getElem?_getD]
    by_cases h : k = 0
    · subst h; rw [List.getElem?_append_left (by omega)]; rfl
    · rw [List.getElem?_append_right (by omega), out_one hc k]
      simp [show c.length + k - 1 - c.length < k by omega, List.getD_eq_getElem?_getD]
/-- What lies further back makes no difference. -/
theorem out_cut {c : List UInt8} {d m : Nat} (hd : 1 ≤ d) (hm : d ≤ m) (hc : d ≤ c.length) : ∀ k, out (lastN m c) d k = out c d k
  | 0 => by simp [out, ext]
  | k + 1 => by
    have ih := out_cut hd hm hc k
    rw [out_next, out_next, ih]
    congr 2
    rw [ext_out, ext_out, ih, List.getD_eq_getElem?_getD, List.getD_eq_getElem?_getD]
    have hl := lastN_length m c
    by_cases h : k < d
    · rw [List.getElem?_append_left (by omega), List.getElem?_append_left (by omega)]
      have h1 := lastN_get (l := c) (j := d - k) (m := m) (by omega) (by omega)
      rw [show (lastN m c).length + k - d = (lastN m c).length - (d - k) by omega, show c.length + k - d = c.length - (d - k) by omega, h1]
    · rw [List.getElem?_append_right (by omega), List.getElem?_append_right (by omega)]
      congr 2
      omega
/-- The content behind a copy. -/
theorem put_out (m : Nat) (c : List UInt8) (d k : Nat) : put m c (out c d k) = lastN m (ext c d k) := by unfold put; rw [ext_out]
end Go.Proofs.YtnkninjdpgpkmaaGreatDoor.Wm
namespace Go.Proofs.YtnkninjdpgpkmaaGreatDoor.Bo
open Go.RowKit Go.Proofs.YtnkninjdpgpkmaaGreatDoor.Vm Go.Proofs.YtnkninjdpgpkmaaGreatDoor.Bm

theorem num_snoc (l : List UInt8) (c : UInt8) : num (l ++ [c]) = num l + 2 ^ (8 * l.length) * c.toNat := by
  rw [num_append]; simp [num]
/-- A list that is not empty: what is ahead of its last byte, and that byte. -/
theorem last_of (l : List UInt8) (p : Nat) (h : l.length = p + 1) : ∃ (r : List UInt8) (c : UInt8), l = r ++ [c] ∧ r.length = p := by
  refine ⟨l.take p, l[p]'(by omega), ?_, by rw [List.length_take]; omega⟩
  rw [← List.take_succ_eq_append_getElem, List.take_of_length_le (by omega)]
/-- The bits of the last byte. -/
theorem last_low {r : List UInt8} {c : UInt8} {u : Nat} (h : num (r ++ [c]) < 2 ^ (8 * r.length + u)) : c.toNat < 2 ^ u := by
  rw [num_snoc, Nat.pow_add] at h
  have h1 : 2 ^ (8 * r.length) * c.toNat < 2 ^ (8 * r.length) * 2 ^ u := by omega
  exact Nat.lt_of_mul_lt_mul_left h1
theorem mul_low (y u : Nat) (hu : u < 8) : y * 2 ^ u % 256 = y % 2 ^ (8 - u) * 2 ^ u := by
  rw [show (256 : Nat) = 2 ^ (8 - u) * 2 ^ u by rw [← Nat.pow_add, show 8 - u + u = 8 by omega], Nat.mul_mod_mul_right]
theorem low_part (y m u : Nat) (hy : y < 2 ^ m) : y % 2 ^ (8 - u) = y % 2 ^ (min (8 - u) m) := by
  by_cases h : 8 - u ≤ m
  · rw [Nat.min_eq_left h]
  · rw [Nat.min_eq_right (by omega), Nat.mod_eq_of_lt hy, Nat.mod_eq_of_lt (Nat.lt_of_lt_of_le hy (Nat.pow_le_pow_right (by omega) (by omega)))]
/-- The byte that is joined. -/
theorem or_byte (c : UInt8) (y u : Nat) (hu : u < 8) (hc : c.toNat < 2 ^ u) : c.toNat ||| y * 2 ^ u % 256 = c.toNat + y * 2 ^ u % 256 ∧ c.toNat + y * 2 ^ u % 256 < 256 := by
  have e := mul_low y u hu
  have h1 : y % 2 ^ (8 - u) < 2 ^ (8 - u) := Nat.mod_lt _ (Nat.two_pow_pos _)
  constructor
  · rw [Nat.or_comm, nat_join u _ _ (by rw [e]; exact Nat.mul_mod_left _ _) hc, Nat.add_comm]
  · rw [e]
    have h2 : (y % 2 ^ (8 - u) + 1) * 2 ^ u ≤ 2 ^ (8 - u) * 2 ^ u := Nat.mul_le_mul_right _ h1
    rw [← Nat.pow_add, show 8 - u + u = 8 by omega, Nat.add_mul, Nat.one_mul] at h2
    have : (2 : Nat) ^ 8 = 256 := rfl
    omega
/-- A round: t bits of y have gone behind z bits. -/
theorem put_round (r : List UInt8) (c : UInt8) (y m z u t : Nat) (hz : z = 8 * r.length + u) (hu : u < 8) (hl : num (r ++ [c]) < 2 ^ z) (hy : y < 2 ^ m) (hm : 1 ≤ m) (ht : t = min (8 - u) m) :
    ∃ d : UInt8, c.toNat ||| y * 2 ^ u % 256 = d.toNat ∧ num (r ++ [d]) + y / 2 ^ t * 2 ^ (z + t) = num (r ++ [c]) + y * 2 ^ z ∧ num (r ++ [d]) < 2 ^ (z + t) ∧ (r ++ [d]).length = (z + t + 7) / 8 ∧ y / 2 ^ t < 2 ^ (m - t) ∧ t ≤ m ∧ 1 ≤ t := by
  have hc := last_low (r := r) (c := c) (u := u) (by rw [← hz]; exact hl)
  obtain ⟨h1, h2⟩ := or_byte c y u hu hc
  have e1 : y * 2 ^ u % 256 = y % 2 ^ t * 2 ^ u := by rw [mul_low y u hu, low_part y m u hy, ht]
  have ed : (UInt8.ofNat (c.toNat + y * 2 ^ u % 256)).toNat = c.toNat + y * 2 ^ u % 256 := by simp; omega
  have e2 : num (r ++ [UInt8.ofNat (c.toNat + y * 2 ^ u % 256)]) = num (r ++ [c]) + y % 2 ^ t * 2 ^ z := by
    rw [num_snoc, num_snoc, ed, e1, hz, Nat.pow_add, Nat.mul_add, Nat.add_assoc]
    congr 2
    rw [Nat.mul_left_comm]
  refine ⟨UInt8.ofNat (c.toNat + y * 2 ^ u % 256), by rw [ed, h1], ?_, ?_, ?_, ?_, by omega, by omega⟩
  · rw [e2]
    have h3 := Nat.mod_add_div y (2 ^ t)
    have h4 : y * 2 ^ z = y % 2 ^ t * 2 ^ z + y / 2 ^ t * 2 ^ (z + t) := by
      calc y * 2 ^ z = (y % 2 ^ t + 2 ^ t * (y / 2 ^ t)) * 2 ^ z := by rw [h3]
        _ = y % 2 ^ t * 2 ^ z + y / 2 ^ t * 2 ^ (z + t) := by rw [Nat.add_mul, Nat.pow_add]; congr 1; rw [Nat.mul_comm (2 ^ t), Nat.mul_assoc, Nat.mul_comm (2 ^ t)]
    omega
  · rw [e2]
    have h3 : y % 2 ^ t < 2 ^ t := Nat.mod_lt _ (Nat.two_pow_pos _)
    have h4 : (y % 2 ^ t + 1) * 2 ^ z ≤ 2 ^ t * 2 ^ z := Nat.mul_le_mul_right _ h3
    rw [Nat.add_mul, Nat.one_mul, ← Nat.pow_add, Nat.add_comm t z] at h4
    omega
  · simp; omega
  · refine Nat.div_lt_of_lt_mul ?_
    rw [← Nat.pow_add, show t + (m - t) = m by omega]
    exact hy
theorem shl_byte (y u : Nat) : IntKind.u8.wrap ((y : Int) * 2 ^ u) = ((y * 2 ^ u % 256 : Nat) : Int) := by
  rw [IntKind.wrap_u8', show (y : Int) * 2 ^ u = ((y * 2 ^ u : Nat) : Int) by push_cast; rfl]
  omega
theorem shl_fits (y u : Nat) (hu : u < 8) (hy : y < 4294967296) : 0 ≤ (y : Int) * 2 ^ u ∧ (y : Int) * 2 ^ u ≤ 9223372036854775807 := by
  have e : (y : Int) * 2 ^ u = ((y * 2 ^ u : Nat) : Int) := by push_cast; rfl
  have h : y * 2 ^ u ≤ y * 2 ^ 8 := Nat.mul_le_mul_left _ (Nat.pow_le_pow_right (by omega) (by omega))
  rw [e]
  omega

end Go.Proofs.YtnkninjdpgpkmaaGreatDoor.Bo
namespace Go.Proofs.YtnkninjdpgpkmaaGreatDoor.Pt
open Go.Proofs.YtnkninjdpgpkmaaGreatDoor.Bm Go.Proofs.YtnkninjdpgpkmaaGreatDoor.Nm Go.Proofs.YtnkninjdpgpkmaaGreatDoor.Nw Go.Proofs.YtnkninjdpgpkmaaGreatDoor.Pm

/-- Symbol s's code, its first bit the lowest one. -/
def tc (l : List Nat) (s : Nat) : Nat := turnN (code l s) (nth l s)
theorem tc_lt (l : List Nat) (s : Nat) : tc l s < 2 ^ nth l s := turnN_lt _ _
theorem tc_small {l : List Nat} (h15 : ∀ i, nth l i ≤ 15) (s : Nat) : tc l s < 32768 := Nat.lt_of_lt_of_le (tc_lt l s) (Nat.pow_le_pow_right (by omega) (h15 s) : 2 ^ nth l s ≤ 2 ^ 15)
/-- The bits x begin with symbol s's code. -/
def At (l : List Nat) (s x : Nat) : Prop := 0 < nth l s ∧ x % 2 ^ nth l s = tc l s
theorem At_self {l : List Nat} {s : Nat} (h : 0 < nth l s) : At l s (tc l s) := ⟨h, Nat.mod_eq_of_lt (tc_lt l s)⟩
theorem At_iff {l : List Nat} (h15 : ∀ i, nth l i ≤ 15) (hk : ksum l 16 ≤ 32768) {s : Nat} (hs : s < l.length) (x : Nat) : At l s x ↔ hit l (turnN x 15) s := by
  have hc := code_lt hs (h15 s) hk
  have h1 : turnN x 15 / 2 ^ (15 - nth l s) = turnN x (nth l s) := by
    have := turnN_high x (nth l s) (15 - nth l s)
    rw [show nth l s + (15 - nth l s) = 15 by have := h15 s; omega] at this
    exact this
  unfold At hit tc
  rw [h1]
  constructor
  · rintro ⟨h0, h⟩
    refine ⟨h0, ?_⟩
    rw [← turnN_mod x (nth l s) _ (Nat.le_refl _), h, turnN_turnN, Nat.mod_eq_of_lt hc]
  · rintro ⟨h0, h⟩
    refine ⟨h0, ?_⟩
    rw [← h, turnN_turnN]
theorem At_one {l : List Nat} (h15 : ∀ i, nth l i ≤ 15) (hk : ksum l 16 ≤ 32768) {i k x : Nat} (hi' : i < l.length) (hk' : k < l.length) (a : At l i x) (b : At l k x) : i = k :=
  hit_one h15 hi' hk' ((At_iff h15 hk hi' x).1 a) ((At_iff h15 hk hk' x).1 b)
theorem reads_At {l : List Nat} (h15 : ∀ i, nth l i ≤ 15) (hk : ksum l 16 ≤ 32768) {s : Nat} (hs : s < l.length) (N a : Nat) : reads l N a s ↔ At l s (peekN N a 15) := by
  rw [At_iff h15 hk hs, hi_peek]; rfl

/-- What a lookup finds: a size and a symbol. -/
def lkp (F : Nat → Nat × Nat) (G : Nat → Nat → Nat × Nat) (x : Nat) : Nat × Nat := if (F (x % 512)).1 = 16 then G (F (x % 512)).2 (x / 512) else F (x % 512)
/-- The tables of the first k symbols; link: a cell that has just been linked. -/
structure inv (l : List Nat) (k m : Nat) (link : Option Nat) (F : Nat → Nat × Nat) (G : Nat → Nat → Nat × Nat) : Prop where
  sp : ∀ x, x < 32768 → (∃ s, s < k ∧ At l s x ∧ lkp F G x = (nth l s, s)) ∨ ((∀ s, s < k → ¬ At l s x) ∧ lkp F G x = (0, 0))
  lk : ∀ p, p < 512 → (F p).1 = 16 → (F p).2 < m ∧ (link = some p ∨ ∃ s, s < k ∧ 9 < nth l s ∧ tc l s % 512 = p)
  one : ∀ p q, p < 512 → q < 512 → (F p).1 = 16 → (F q).1 = 16 → (F p).2 = (F q).2 → p = q
  le : m ≤ k + (if link = none then 0 else 1)

theorem inv_zero (l : List Nat) (G : Nat → Nat → Nat × Nat) : inv l 0 0 none (fun _ => (0, 0)) G :=
  ⟨fun x _ => .inr ⟨fun s h => absurd h (by omega), by simp [lkp]⟩, fun p _ h => absurd h (by simp), fun p q _ _ h => absurd h (by simp), by simp⟩
theorem inv_skip {l : List Nat} {k m : Nat} {F : Nat → Nat × Nat} {G : Nat → Nat → Nat × Nat} (h : inv l k m none F G) (h0 : nth l k = 0) : inv l (k + 1) m none F G := by
  refine ⟨fun x hx => ?_, fun p hp h1 => ?_, h.one, by have := h.le; simp at this ⊢; omega⟩
  · rcases h.sp x hx with ⟨s, hs, ha, hl⟩ | ⟨hn, hl⟩
    · exact .inl ⟨s, by omega, ha, hl⟩
    · refine .inr ⟨fun s hs ha => ?_, hl⟩
      rcases (show s < k ∨ s = k by omega) with h1 | rfl
      · exact hn s h1 ha
      · have := ha.1; omega
  · obtain ⟨a, b⟩ := h.lk p hp h1
    refine ⟨a, ?_⟩
    rcases b with b | ⟨s, hs, b⟩
    · exact .inl b
    · exact .inr ⟨s, by omega, b⟩

theorem mod_512 {n : Nat} (hn : n ≤ 9) (x : Nat) : x % 512 % 2 ^ n = x % 2 ^ n :=
  Nat.mod_mod_of_dvd x (Nat.pow_dvd_pow 2 hn : 2 ^ n ∣ 2 ^ 9)
theorem mod_long {n : Nat} (hn : 9 ≤ n) (x b : Nat) : x % 2 ^ n = b ↔ x % 512 = b % 512 ∧ x / 512 % 2 ^ (n - 9) = b / 512 := by
  have e : 2 ^ n = 512 * 2 ^ (n - 9) := by
    rw [show (512 : Nat) = 2 ^ 9 by decide, ← Nat.pow_add]; congr 1; omega
  rw [e, Nat.mod_mul]
  have h1 := Nat.mod_add_div b 512
  have h2 : x % 512 < 512 := Nat.mod_lt _ (by omega)
  have h3 : b % 512 < 512 := Nat.mod_lt _ (by omega)
  constructor
  · intro h
    omega
  · rintro ⟨h4, h5⟩
    rw [h4, h5]; omega
theorem div_lt_long {n b : Nat} (hn : 9 ≤ n) (hb : b < 2 ^ n) : b / 512 < 2 ^ (n - 9) := by
  have e : 2 ^ n = 512 * 2 ^ (n - 9) := by
    rw [show (512 : Nat) = 2 ^ 9 by decide, ← Nat.pow_add]; congr 1; omega
  rw [Nat.div_lt_iff_lt_mul (by omega)]
  rw [e, Nat.mul_comm] at hb
  exact hb

/-- The first table with a short code. -/
def putF (F : Nat → Nat × Nat) (n b k : Nat) : Nat → Nat × Nat := fun p => if p % 2 ^ n = b then (n, k) else F p
theorem inv_short {l : List Nat} {k m : Nat} {F : Nat → Nat × Nat} {G : Nat → Nat → Nat × Nat} (h15 : ∀ i, nth l i ≤ 15) (hk : ksum l 16 ≤ 32768) (hkl : k < l.length) (h0 : 0 < nth l k) (h9 : nth l k ≤ 9) (h : inv l k m none F G) :
    inv l (k + 1) m none (putF F (nth l k) (tc l k) k) G := by
  have hfree : ∀ p, p < 512 → p % 2 ^ nth l k = tc l k → (F p).1 ≠ 16 := by
    intro p hp hpm h1
    obtain ⟨_, b⟩ := h.lk p hp h1
    rcases b with b | ⟨s, hs, hs9, hb⟩
    · cases b
    · have e := At_one h15 hk (x := tc l s) (show s < l.length by omega) hkl (At_self (by omega)) ⟨h0, by rw [← mod_512 h9, hb, hpm]⟩
      omega
  have hF : ∀ p, ((putF F (nth l k) (tc l k) k) p).1 = 16 → ¬ p % 2 ^ nth l k = tc l k ∧ (putF F (nth l k) (tc l k) k) p = F p := by
    intro p hp
    unfold putF at hp ⊢
    by_cases e : p % 2 ^ nth l k = tc l k
    · rw [if_pos e] at hp; simp at hp; omega
    · exact ⟨e, if_neg e⟩
  refine ⟨fun x hx => ?_, fun p hp h1 => ?_, fun p q hp hq h1 h2 h3 => ?_, by have := h.le; simp at this ⊢; omega⟩
  · by_cases e : x % 2 ^ nth l k = tc l k
    · refine .inl ⟨k, by omega, ⟨h0, e⟩, ?_⟩
      have e2 : x % 512 % 2 ^ nth l k = tc l k := by rw [mod_512 h9]; exact e
      have e3 : (putF F (nth l k) (tc l k) k) (x % 512) = (nth l k, k) := if_pos e2
      unfold lkp
      rw [e3, if_neg (by show nth l k ≠ 16; omega)]
    · have e2 : ¬ x % 512 % 2 ^ nth l k = tc l k := by rw [mod_512 h9]; exact e
      have e3 : (putF F (nth l k) (tc l k) k) (x % 512) = F (x % 512) := if_neg e2
      have e4 : lkp (putF F (nth l k) (tc l k) k) G x = lkp F G x := by unfold lkp; rw [e3]
      rw [e4]
      rcases h.sp x hx with ⟨s, hs, ha, hl⟩ | ⟨hn, hl⟩
      · exact .inl ⟨s, by omega, ha, hl⟩
      · refine .inr ⟨fun s hs ha => ?_, hl⟩
        rcases (show s < k ∨ s = k by omega) with h1 | rfl
        · exact hn s h1 ha
        · exact e ha.2
  · obtain ⟨_, e⟩ := hF p h1
    rw [e] at h1 ⊢
    obtain ⟨a, b⟩ := h.lk p hp h1
    refine ⟨a, ?_⟩
    rcases b with b | ⟨s, hs, b⟩
    · exact .inl b
    · exact .inr ⟨s, by omega, b⟩
  · obtain ⟨_, e1⟩ := hF p h1
    obtain ⟨_, e2⟩ := hF q h2
    rw [e1] at h1 h3
    rw [e2] at h2 h3
    exact h.one p q hp hq h1 h2 h3

/-- A cell that is linked already. -/
theorem inv_old {l : List Nat} {k m : Nat} {F : Nat → Nat × Nat} {G : Nat → Nat → Nat × Nat} (p : Nat) (h : inv l k m none F G) : inv l k m (some p) F G :=
  ⟨h.sp, fun q hq h1 => by
    obtain ⟨a, b⟩ := h.lk q hq h1
    rcases b with b | b
    · cases b
    · exact ⟨a, .inr b⟩, h.one, by have := h.le; simp at this ⊢; omega⟩
/-- A cell that is linked now. -/
def linkF (F : Nat → Nat × Nat) (p m : Nat) : Nat → Nat × Nat := fun q => if q = p then (16, m) else F q
def linkG (G : Nat → Nat → Nat × Nat) (m : Nat) : Nat → Nat → Nat × Nat := fun i => if i = m then (fun _ => (0, 0)) else G i
theorem free {l : List Nat} {k m : Nat} {F : Nat → Nat × Nat} {G : Nat → Nat → Nat × Nat} (h15 : ∀ i, nth l i ≤ 15) (hk : ksum l 16 ≤ 32768) (hkl : k < l.length) (h0 : 0 < nth l k) (h : inv l k m none F G) (hp : (F (tc l k % 512)).1 ≠ 16) : F (tc l k % 512) = (0, 0) := by
  have e : lkp F G (tc l k) = F (tc l k % 512) := if_neg hp
  rcases h.sp (tc l k) (tc_small h15 k) with ⟨s, hs, ha, _⟩ | ⟨_, hl⟩
  · have := At_one h15 hk (show s < l.length by omega) hkl ha (At_self h0)
    omega
  · rw [← e]; exact hl
theorem inv_new {l : List Nat} {k m p : Nat} {F : Nat → Nat × Nat} {G : Nat → Nat → Nat × Nat} (h : inv l k m none F G) (hp : F p = (0, 0)) : inv l k (m + 1) (some p) (linkF F p m) (linkG G m) := by
  have hF : ∀ q, q ≠ p → linkF F p m q = F q := fun q hq => if_neg hq
  have hFp : linkF F p m p = (16, m) := if_pos rfl
  refine ⟨fun x hx => ?_, fun q hq h1 => ?_, fun q r hq hr h1 h2 h3 => ?_, by have := h.le; simp at this ⊢; omega⟩
  · by_cases e : x % 512 = p
    · have e1 : lkp (linkF F p m) (linkG G m) x = (0, 0) := by unfold lkp; rw [e, hFp]; simp [linkG]
      have e2 : lkp F G x = (0, 0) := by unfold lkp; rw [e, hp]; simp
      rw [e1]
      rcases h.sp x hx with ⟨s, hs, ha, hl⟩ | ⟨hn, hl⟩
      · rw [e2] at hl; have := ha.1; simp at hl; omega
      · exact .inr ⟨hn, rfl⟩
    · have e1 : lkp (linkF F p m) (linkG G m) x = lkp F G x := by
        unfold lkp
        rw [hF _ e]
        by_cases h16 : (F (x % 512)).1 = 16
        · rw [if_pos h16, if_pos h16]
          have := (h.lk _ (Nat.mod_lt _ (by omega)) h16).1
          simp [linkG, show (F (x % 512)).2 ≠ m by omega]
        · rw [if_neg h16, if_neg h16]
      rw [e1]; exact h.sp x hx
  · by_cases e : q = p
    · subst e; rw [hFp]; exact ⟨by show m < m + 1; omega, .inl rfl⟩
    · rw [hF q e] at h1 ⊢
      obtain ⟨a, b⟩ := h.lk q hq h1
      rcases b with b | b
      · cases b
      · exact ⟨by omega, .inr b⟩
  · by_cases e : q = p
    · subst e
      by_cases e2 : r = q
      · exact e2.symm
      · rw [hF r e2] at h2 h3
        have := (h.lk r hr h2).1
        rw [hFp] at h3
        simp at h3; omega
    · rw [hF q e] at h1 h3
      by_cases e2 : r = p
      · subst e2
        have := (h.lk q hq h1).1
        rw [hFp] at h3
        simp at h3; omega
      · rw [hF r e2] at h2 h3
        exact h.one q r hq hr h1 h2 h3
/-- A second table with a long code. -/
def putG (G : Nat → Nat → Nat × Nat) (i n b k : Nat) : Nat → Nat → Nat × Nat := fun a => if a = i then (fun j => if j % 2 ^ (n - 9) = b / 512 then (n, k) else G i j) else G a
theorem inv_long {l : List Nat} {k m : Nat} {F : Nat → Nat × Nat} {G : Nat → Nat → Nat × Nat} (hkl : k < l.length) (h9 : 9 < nth l k) (h : inv l k m (some (tc l k % 512)) F G) (hl : (F (tc l k % 512)).1 = 16) :
    inv l (k + 1) m none F (putG G (F (tc l k % 512)).2 (nth l k) (tc l k) k) := by
  have hp : tc l k % 512 < 512 := Nat.mod_lt _ (by omega)
  refine ⟨fun x hx => ?_, fun q hq h1 => ?_, h.one, by have := h.le; simp at this ⊢; omega⟩
  · have hm := mod_long (n := nth l k) (by omega) x (tc l k)
    by_cases e : x % 512 = tc l k % 512
    · by_cases e2 : x / 512 % 2 ^ (nth l k - 9) = tc l k / 512
      · refine .inl ⟨k, by omega, ⟨by omega, hm.2 ⟨e, e2⟩⟩, ?_⟩
        unfold lkp; rw [e, if_pos hl]; simp [putG, e2]
      · have e3 : lkp F (putG G (F (tc l k % 512)).2 (nth l k) (tc l k) k) x = lkp F G x := by unfold lkp; rw [e, if_pos hl, if_pos hl]; simp [putG, e2]
        rw [e3]
        rcases h.sp x hx with ⟨s, hs, ha, hl⟩ | ⟨hn, hl⟩
        · exact .inl ⟨s, by omega, ha, hl⟩
        · refine .inr ⟨fun s hs ha => ?_, hl⟩
          rcases (show s < k ∨ s = k by omega) with h1 | rfl
          · exact hn s h1 ha
          · exact e2 (hm.1 ha.2).2
    · have e3 : lkp F (putG G (F (tc l k % 512)).2 (nth l k) (tc l k) k) x = lkp F G x := by
        unfold lkp
        by_cases h16 : (F (x % 512)).1 = 16
        · rw [if_pos h16, if_pos h16]
          have : (F (x % 512)).2 ≠ (F (tc l k % 512)).2 := fun e4 => e (h.one _ _ (Nat.mod_lt _ (by omega)) hp h16 hl e4)
          simp [putG, this]
        · rw [if_neg h16, if_neg h16]
      rw [e3]
      rcases h.sp x hx with ⟨s, hs, ha, hl⟩ | ⟨hn, hl⟩
      · exact .inl ⟨s, by omega, ha, hl⟩
      · refine .inr ⟨fun s hs ha => ?_, hl⟩
        rcases (show s < k ∨ s = k by omega) with h1 | rfl
        · exact hn s h1 ha
        · exact e (hm.1 ha.2).1
  · obtain ⟨a, b⟩ := h.lk q hq h1
    refine ⟨a, .inr ?_⟩
    rcases b with b | ⟨s, hs, b⟩
    · injection b with b
      exact ⟨k, by omega, h9, b⟩
    · exact ⟨s, by omega, b⟩
end Go.Proofs.YtnkninjdpgpkmaaGreatDoor.Pt
