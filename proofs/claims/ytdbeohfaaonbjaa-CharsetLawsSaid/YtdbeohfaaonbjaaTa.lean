/-
  Sets of bytes in numbers, more: words that are changed one by one (all others, either, both); bits counted, also by OnesCount64's way.
  Conditions: as each theorem says. Nothing of the program is named here.
-/
import Derived.Test.YtdbeohfaaonbjaaTm
namespace Go.Proofs.Ytdbeohfaaonbjaa.Ta
open Go.Proofs.Ytdbeohfaaonbjaa.Tm

/-- Four words, the first k of them changed. -/
def mix (f : Nat → Nat → Nat) (a b : List Nat) (k : Nat) : List Nat := (List.range 4).map fun i => if i < k then f (a.getD i 0) (b.getD i 0) else a.getD i 0
section
variable {f : Nat → Nat → Nat} {a b : List Nat} {k : Nat}
theorem mix_length : (mix f a b k).length = 4 := by simp [mix]
theorem mix_get {i : Nat} (h : i < 4) : (mix f a b k)[i]? = some (if i < k then f (a.getD i 0) (b.getD i 0) else a.getD i 0) := by simp [mix, h]
theorem mix_getD {i : Nat} (h : i < 4) : (mix f a b k).getD i 0 = if i < k then f (a.getD i 0) (b.getD i 0) else a.getD i 0 := by
  rw [List.getD_eq_getElem?_getD, mix_get h]; rfl
theorem get_of {a : List Nat} (ha : isSet a) {i : Nat} (h : i < 4) : a[i]? = some (a.getD i 0) := by
  rw [List.getD_eq_getElem?_getD, List.getElem?_eq_getElem (by rw [ha.l]; exact h)]; rfl
theorem word_lt {a : List Nat} (ha : isSet a) (i : Nat) : a.getD i 0 < 18446744073709551616 := by
  by_cases h : i < a.length
  · rw [List.getD_eq_getElem?_getD, List.getElem?_eq_getElem h]
    exact ha.b _ (List.getElem_mem h)
  · rw [List.getD_eq_getElem?_getD, List.getElem?_eq_none (by omega)]
    show 0 < _
    omega
theorem mix_zero (ha : isSet a) : mix f a b 0 = a := List.ext_getElem? fun i => by
  by_cases h : i < 4
  · rw [mix_get h, if_neg (by omega), get_of ha h]
  · rw [List.getElem?_eq_none (by rw [mix_length]; omega), List.getElem?_eq_none (by rw [ha.l]; omega)]
theorem mix_step (hk : k < 4) : (mix f a b k).set k (f (a.getD k 0) (b.getD k 0)) = mix f a b (k + 1) := List.ext_getElem? fun i => by
  by_cases h : i < 4
  · rw [List.getElem?_set, mix_length, mix_get h, mix_get h]
    by_cases e : k = i
    · subst e; simp [hk]
    · rw [if_neg e]
      by_cases e2 : i < k
      · rw [if_pos e2, if_pos (by omega)]
      · rw [if_neg e2, if_neg (by omega)]
  · rw [List.getElem?_eq_none (by rw [List.length_set, mix_length]; omega), List.getElem?_eq_none (by rw [mix_length]; omega)]
theorem mix_set (ha : isSet a) (hb : isSet b) (hf : ∀ x y, x < 18446744073709551616 → y < 18446744073709551616 → f x y < 18446744073709551616) : isSet (mix f a b k) :=
  ⟨mix_length, fun x hx => by
    unfold mix at hx
    obtain ⟨i, _, rfl⟩ := List.mem_map.1 hx
    show (if i < k then _ else _) < _
    split
    · exact hf _ _ (word_lt ha i) (word_lt hb i)
    · exact word_lt ha i⟩
end
def fNot (x _y : Nat) : Nat := 18446744073709551615 - x
def fOr (x y : Nat) : Nat := x ||| y
def fAnd (x y : Nat) : Nat := x &&& y
def notL (a : List Nat) : List Nat := mix fNot a a 4
def orL (a b : List Nat) : List Nat := mix fOr a b 4
def andL (a b : List Nat) : List Nat := mix fAnd a b 4
theorem fNot_lt (x y : Nat) (_ : x < 18446744073709551616) (_ : y < 18446744073709551616) : fNot x y < 18446744073709551616 := by unfold fNot; omega
theorem fOr_lt (x y : Nat) (hx : x < 18446744073709551616) (hy : y < 18446744073709551616) : fOr x y < 18446744073709551616 := Nat.or_lt_two_pow (n := 64) hx hy
theorem fAnd_lt (x y : Nat) (_ : x < 18446744073709551616) (hy : y < 18446744073709551616) : fAnd x y < 18446744073709551616 := Nat.and_lt_two_pow (n := 64) x hy
section
variable {a b : List Nat} (ha : isSet a) (hb : isSet b)
include ha in
theorem notL_set : isSet (notL a) := mix_set ha ha fNot_lt
include ha hb in
theorem orL_set : isSet (orL a b) := mix_set ha hb fOr_lt
include ha hb in
theorem andL_set : isSet (andL a b) := mix_set ha hb fAnd_lt
include ha in
theorem has_not {c : Nat} (h : c < 256) : has (notL a) c = !has a c := by
  unfold has notL
  rw [mix_getD (by omega), if_pos (by omega)]
  have := Nat.testBit_two_pow_sub_succ (n := 64) (x := a.getD (c / 64) 0) (word_lt ha _) (c % 64)
  rw [decide_eq_true (show c % 64 < 64 by omega), Bool.true_and] at this
  rw [← this]
  congr 1
  have h2 := word_lt ha (c / 64)
  unfold fNot
  omega
theorem has_or {c : Nat} (h : c < 256) : has (orL a b) c = (has a c || has b c) := by
  unfold has orL
  rw [mix_getD (by omega), if_pos (by omega)]
  exact Nat.testBit_or _ _ _
theorem has_and {c : Nat} (h : c < 256) : has (andL a b) c = (has a c && has b c) := by
  unfold has andL
  rw [mix_getD (by omega), if_pos (by omega)]
  exact Nat.testBit_and _ _ _
include ha in
theorem not_not : notL (notL a) = a := set_ext (notL_set (notL_set ha)) ha fun c hc => by rw [has_not (notL_set ha) hc, has_not ha hc, Bool.not_not]
include ha hb in
theorem not_or : notL (orL a b) = andL (notL a) (notL b) := set_ext (notL_set (orL_set ha hb)) (andL_set (notL_set ha) (notL_set hb)) fun c hc => by
  rw [has_not (orL_set ha hb) hc, has_or hc, has_and hc, has_not ha hc, has_not hb hc, Bool.not_or]
end

/-- How many of the lowest n bits are 1. -/
def pop : Nat → Nat → Nat
  | 0, _ => 0
  | n + 1, x => x % 2 + pop n (x / 2)
theorem pop_range : ∀ n x : Nat, ((List.range n).filter (fun k => x.testBit k)).length = pop n x
  | 0, _ => rfl
  | n + 1, x => by
    rw [List.range_succ_eq_map, List.filter_cons, List.filter_map]
    have ih := pop_range n (x / 2)
    have e : (List.range n).filter ((fun k => x.testBit k) ∘ Nat.succ) = (List.range n).filter (fun k => (x / 2).testBit k) := List.filter_congr fun k _ => by
      show x.testBit (k + 1) = _
      rw [Nat.testBit_succ]
    rw [e, pop]
    have h2 : x % 2 = 0 ∨ x % 2 = 1 := by omega
    rw [Nat.testBit_zero]
    rcases h2 with h2 | h2 <;> simp [h2, ih]
    omega
/-- .. of the first k words. -/
def cntTo (a : List Nat) : Nat → Nat
  | 0 => 0
  | k + 1 => cntTo a k + pop 64 (a.getD k 0)
theorem cntTo_step (a : List Nat) (k : Nat) : cntTo a (k + 1) = cntTo a k + pop 64 (a.getD k 0) := rfl
theorem pop_le : ∀ n x : Nat, pop n x ≤ n
  | 0, _ => Nat.le_refl _
  | n + 1, x => by unfold pop; have := pop_le n (x / 2); omega
theorem cntTo_le (a : List Nat) : ∀ k, cntTo a k ≤ 64 * k
  | 0 => Nat.le_refl _
  | k + 1 => by unfold cntTo; have := cntTo_le a k; have := pop_le 64 (a.getD k 0); omega
theorem cnt_is (a : List Nat) : ∀ k, ((List.range (64 * k)).filter (has a)).length = cntTo a k
  | 0 => rfl
  | k + 1 => by
    rw [show 64 * (k + 1) = 64 * k + 64 by omega, List.range_add, List.filter_append, List.length_append, cnt_is a k, List.filter_map, List.length_map, cntTo, ← pop_range]
    congr 2
    refine List.filter_congr fun i hi => ?_
    have := List.mem_range.1 hi
    show has a (64 * k + i) = _
    unfold has
    rw [show (64 * k + i) / 64 = k by omega, show (64 * k + i) % 64 = i by omega]
theorem byt_len (a : List Nat) : (byt a).length = cntTo a 4 := cnt_is a 4

theorem and_split (n a b : Nat) : a &&& b = 2 ^ n * (a / 2 ^ n &&& b / 2 ^ n) + (a % 2 ^ n &&& b % 2 ^ n) := by
  rw [← Nat.and_div_two_pow, ← Nat.and_mod_two_pow]
  exact (Nat.div_add_mod _ _).symm
/-- A mask of k groups. -/
def msk (n c : Nat) : Nat → Nat
  | 0 => 0
  | k + 1 => 2 ^ n * msk n c k + c
theorem msk_div {n c : Nat} (h : c < 2 ^ n) (k : Nat) : msk n c (k + 1) / 2 ^ n = msk n c k := by
  rw [show msk n c (k + 1) = 2 ^ n * msk n c k + c from rfl, Nat.mul_add_div (Nat.pow_pos (by omega)), Nat.div_eq_of_lt h, Nat.add_zero]
theorem msk_mod {n c : Nat} (h : c < 2 ^ n) (k : Nat) : msk n c (k + 1) % 2 ^ n = c := by
  rw [show msk n c (k + 1) = 2 ^ n * msk n c k + c from rfl, Nat.mul_add_mod, Nat.mod_eq_of_lt h]
def f1 (k x : Nat) : Nat := (x / 2 &&& msk 4 5 k) + (x &&& msk 4 5 k)
def f2 (k x : Nat) : Nat := (x / 4 &&& msk 4 3 k) + (x &&& msk 4 3 k)
theorem and5 : ∀ r < 16, ∀ b < 2, (8 * b + r / 2) &&& 5 = (r / 2) &&& 5 := by decide
theorem and3 : ∀ r < 16, ∀ b < 4, (4 * b + r / 4) &&& 3 = (r / 4) &&& 3 := by decide
theorem g12 : ∀ r < 16, (((r / 2) &&& 5) + (r &&& 5)) < 16 ∧ (((((r / 2) &&& 5) + (r &&& 5)) / 4) &&& 3) + ((((r / 2) &&& 5) + (r &&& 5)) &&& 3) = pop 4 r := by decide
theorem f1_step (k y r : Nat) (hr : r < 16) : f1 (k + 1) (16 * y + r) = 16 * f1 k y + (((r / 2) &&& 5) + (r &&& 5)) := by
  unfold f1
  rw [and_split 4 ((16 * y + r) / 2), and_split 4 (16 * y + r), msk_div (by decide), msk_mod (by decide)]
  rw [show (16 * y + r) / 2 / 2 ^ 4 = y / 2 by omega, show (16 * y + r) / 2 % 2 ^ 4 = 8 * (y % 2) + r / 2 by omega, show (16 * y + r) / 2 ^ 4 = y by omega, show (16 * y + r) % 2 ^ 4 = r by omega, and5 r hr (y % 2) (by omega)]
  omega
theorem f2_step (k y r : Nat) (hr : r < 16) : f2 (k + 1) (16 * y + r) = 16 * f2 k y + (((r / 4) &&& 3) + (r &&& 3)) := by
  unfold f2
  rw [and_split 4 ((16 * y + r) / 4), and_split 4 (16 * y + r), msk_div (by decide), msk_mod (by decide)]
  rw [show (16 * y + r) / 4 / 2 ^ 4 = y / 4 by omega, show (16 * y + r) / 4 % 2 ^ 4 = 4 * (y % 4) + r / 4 by omega, show (16 * y + r) / 2 ^ 4 = y by omega, show (16 * y + r) % 2 ^ 4 = r by omega, and3 r hr (y % 4) (by omega)]
  omega
def F (k x : Nat) : Nat := f2 k (f1 k x)
theorem F_step (k x : Nat) : F (k + 1) x = 16 * F k (x / 16) + pop 4 (x % 16) := by
  have hr : x % 16 < 16 := by omega
  obtain ⟨h1, h2⟩ := g12 (x % 16) hr
  have e : f1 (k + 1) x = 16 * f1 k (x / 16) + ((((x % 16) / 2) &&& 5) + ((x % 16) &&& 5)) := by
    have := f1_step k (x / 16) (x % 16) hr
    rw [show 16 * (x / 16) + x % 16 = x by omega] at this
    exact this
  unfold F
  rw [e, f2_step k _ _ h1, h2]
def K (k x : Nat) : Nat := (F (2 * k) x / 16 + F (2 * k) x) &&& msk 8 15 k
theorem F_low (k x : Nat) : F k x % 16 ≤ 4 := by
  cases k with
  | zero => rw [show F 0 x = 0 by simp [F, f2, f1, msk]]; omega
  | succ k => rw [F_step]; have := pop_le 4 (x % 16); omega
theorem pop_add : ∀ m n x : Nat, pop (m + n) x = pop m x + pop n (x / 2 ^ m)
  | 0, n, x => by simp [pop]
  | m + 1, n, x => by
    rw [show m + 1 + n = m + n + 1 by omega, pop, pop, pop_add m n, Nat.pow_succ, Nat.mul_comm (2 ^ m) 2, ← Nat.div_div_eq_div_mul]
    omega
theorem pop_mod : ∀ n x : Nat, pop n (x % 2 ^ n) = pop n x
  | 0, _ => rfl
  | n + 1, x => by
    rw [pop, pop, Nat.pow_succ, show x % (2 ^ n * 2) % 2 = x % 2 from Nat.mod_mod_of_dvd _ (Nat.dvd_mul_left _ _), show x % (2 ^ n * 2) / 2 = x / 2 % 2 ^ n by rw [Nat.mul_comm, Nat.mod_mul_right_div_self], pop_mod n]
theorem K_step (k x : Nat) : K (k + 1) x = 256 * K k (x / 256) + pop 8 x := by
  unfold K
  rw [show 2 * (k + 1) = 2 * k + 1 + 1 by omega, F_step, F_step, show x / 16 / 16 = x / 256 by omega, show 8 = 4 + 4 from rfl, pop_add 4 4, ← pop_mod 4 x, ← pop_mod 4 (x / 2 ^ 4)]
  have h1 := F_low (2 * k) (x / 256)
  have h2 := pop_le 4 (x % 2 ^ 4)
  have h3 := pop_le 4 (x / 2 ^ 4 % 2 ^ 4)
  rw [show x % 16 = x % 2 ^ 4 from rfl, show x / 16 % 16 = x / 2 ^ 4 % 2 ^ 4 from rfl]
  generalize pop 4 (x % 2 ^ 4) = p at *
  generalize pop 4 (x / 2 ^ 4 % 2 ^ 4) = q at *
  generalize F (2 * k) (x / 256) = z at *
  rw [and_split 8 ((16 * (16 * z + q) + p) / 16 + (16 * (16 * z + q) + p)), msk_div (by decide), msk_mod (by decide)]
  have e1 : ((16 * (16 * z + q) + p) / 16 + (16 * (16 * z + q) + p)) / 2 ^ 8 = z / 16 + z := by omega
  have e2 : ((16 * (16 * z + q) + p) / 16 + (16 * (16 * z + q) + p)) % 2 ^ 8 % 16 = p + q := by omega
  rw [e1, show (15 : Nat) = 2 ^ 4 - 1 from rfl, Nat.and_two_pow_sub_one_eq_mod, show (2 : Nat) ^ 4 = 16 from rfl, e2]
/-- The whole of it. -/
def net (x : Nat) : Nat :=
  let x1 := (x / 2 &&& 6148914691236517205) + (x &&& 6148914691236517205)
  let x2 := (x1 / 4 &&& 3689348814741910323) + (x1 &&& 3689348814741910323)
  let x3 := (x2 / 16 + x2) &&& 1085102592571150095
  let x4 := x3 + x3 / 256
  let x5 := x4 + x4 / 65536
  x5 + x5 / 4294967296
theorem K8 (x : Nat) : ∃ b0 b1 b2 b3 b4 b5 b6 b7 : Nat, b0 ≤ 8 ∧ b1 ≤ 8 ∧ b2 ≤ 8 ∧ b3 ≤ 8 ∧ b4 ≤ 8 ∧ b5 ≤ 8 ∧ b6 ≤ 8 ∧ b7 ≤ 8
    ∧ K 8 x = b0 + 256 * (b1 + 256 * (b2 + 256 * (b3 + 256 * (b4 + 256 * (b5 + 256 * (b6 + 256 * b7)))))) ∧ pop 64 x = b0 + b1 + b2 + b3 + b4 + b5 + b6 + b7 := by
  refine ⟨_, _, _, _, _, _, _, _, pop_le 8 x, pop_le 8 (x / 256), pop_le 8 (x / 256 / 256), pop_le 8 (x / 256 / 256 / 256), pop_le 8 (x / 256 / 256 / 256 / 256), pop_le 8 (x / 256 / 256 / 256 / 256 / 256),
    pop_le 8 (x / 256 / 256 / 256 / 256 / 256 / 256), pop_le 8 (x / 256 / 256 / 256 / 256 / 256 / 256 / 256), ?_, ?_⟩
  · rw [K_step, K_step, K_step, K_step, K_step, K_step, K_step, K_step, show K 0 (x / 256 / 256 / 256 / 256 / 256 / 256 / 256 / 256) = 0 by simp [K, msk]]
    omega
  · rw [show 64 = 8 + (8 + (8 + (8 + (8 + (8 + (8 + 8)))))) from rfl, pop_add 8, pop_add 8, pop_add 8, pop_add 8, pop_add 8, pop_add 8, pop_add 8, show (2 : Nat) ^ 8 = 256 from rfl]
    omega
theorem net_is {x x1 x2 x3 x4 x5 x6 : Nat} (h1 : x1 = (x / 2 &&& 6148914691236517205) + (x &&& 6148914691236517205)) (h2 : x2 = (x1 / 4 &&& 3689348814741910323) + (x1 &&& 3689348814741910323))
    (h3 : x3 = (x2 / 16 + x2) &&& 1085102592571150095) (h4 : x4 = x3 + x3 / 256) (h5 : x5 = x4 + x4 / 65536) (h6 : x6 = x5 + x5 / 4294967296) : x6 % 128 = pop 64 x ∧ x4 < 18446744073709551616 ∧ x5 < 18446744073709551616 ∧ x6 < 9223372036854775808 := by
  have e1 : x1 = f1 16 x := by rw [h1]; rfl
  have e2 : x2 = F 16 x := by rw [h2, e1]; rfl
  have e3 : x3 = K 8 x := by rw [h3, e2]; rfl
  obtain ⟨b0, b1, b2, b3, b4, b5, b6, b7, l0, l1, l2, l3, l4, l5, l6, l7, hk, hp⟩ := K8 x
  rw [hp]
  rw [hk] at e3
  clear hk hp h1 h2 h3 e1 e2
  have e4 : x4 = b0 + b1 + 256 * (b1 + b2 + 256 * (b2 + b3 + 256 * (b3 + b4 + 256 * (b4 + b5 + 256 * (b5 + b6 + 256 * (b6 + b7 + 256 * b7)))))) := by omega
  clear h4 e3
  have e5 : x5 = b0 + b1 + b2 + b3 + 256 * (b1 + b2 + b3 + b4 + 256 * (b2 + b3 + b4 + b5 + 256 * (b3 + b4 + b5 + b6 + 256 * (b4 + b5 + b6 + b7 + 256 * (b5 + b6 + b7 + 256 * (b6 + b7 + 256 * b7)))))) := by omega
  refine ⟨?_, by omega, by omega, by omega⟩
  have e6 : x5 / 4294967296 = b4 + b5 + b6 + b7 + 256 * (b5 + b6 + b7 + 256 * (b6 + b7 + 256 * b7)) := by omega
  omega
end Go.Proofs.Ytdbeohfaaonbjaa.Ta
