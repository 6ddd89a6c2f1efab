/-
  CRC-32 in plain numbers: a step by one bit, a state behind a string as so many steps of one large number, and what follows of it: parts, exclusive ors, turned bits.
  Conditions: none but the ones that each theorem names. Nothing of the program is named here.
-/
import Derived.WalkKit
import Derived.Lib.Hide
namespace Go.Proofs.Ytgilfjojimgpaaa.Cm

/-- RFC 1952's polynomial. -/
def poly : Nat := 3988292384
/-- One bit out. -/
def bstep (n : Nat) : Nat := (n / 2) ^^^ (n % 2 * poly)
def bsteps : Nat → Nat → Nat
  | 0, n => n
  | k + 1, n => bsteps k (bstep n)
/-- A byte's entry. -/
def entry (n : Nat) : Nat := bsteps 8 n
/-- A state behind a byte. -/
def byteN (c b : Nat) : Nat := entry (c % 256 ^^^ b) ^^^ c / 256
/-- A state behind bytes. -/
def crun (c : Nat) : List UInt8 → Nat
  | [] => c
  | b :: l => crun (byteN c b.toNat) l
def cinv (c : Nat) : Nat := 4294967295 - c
/-- A sum that goes on. -/
def con (c : Nat) (l : List UInt8) : Nat := cinv (crun (cinv c) l)
/-- The number whose bits are the bytes' bits, the first byte's lowest bit first. -/
def leN : List UInt8 → Nat
  | [] => 0
  | b :: l => b.toNat ^^^ (leN l * 256)

theorem xor_div (a b k : Nat) : (a ^^^ b) / 2 ^ k = a / 2 ^ k ^^^ b / 2 ^ k := by
  rw [← Nat.shiftRight_eq_div_pow, ← Nat.shiftRight_eq_div_pow, ← Nat.shiftRight_eq_div_pow, Nat.shiftRight_xor_distrib]
theorem xor_mod (a b k : Nat) : (a ^^^ b) % 2 ^ k = a % 2 ^ k ^^^ b % 2 ^ k := Nat.xor_mod_two_pow
theorem xor4 (a b c d : Nat) : (a ^^^ b) ^^^ (c ^^^ d) = (a ^^^ c) ^^^ (b ^^^ d) := by
  rw [Nat.xor_assoc, Nat.xor_assoc, ← Nat.xor_assoc b c d, Nat.xor_comm b c, Nat.xor_assoc c b d]
theorem xor6 (a b c d e f : Nat) : (a ^^^ d) ^^^ (b ^^^ e) ^^^ (c ^^^ f) = (a ^^^ b ^^^ c) ^^^ (d ^^^ e ^^^ f) := by rw [xor4 a d b e, xor4 (a ^^^ b) (d ^^^ e) c f]
theorem split_xor (n k : Nat) : n = (n % 2 ^ k) ^^^ (n / 2 ^ k * 2 ^ k) := by
  apply Nat.eq_of_testBit_eq
  intro i
  rw [Nat.testBit_xor, Nat.testBit_mod_two_pow, Nat.testBit_mul_two_pow, Nat.testBit_div_two_pow]
  by_cases h : i < k
  · simp [h, Nat.not_le.mpr h]
  · have : k ≤ i := by omega
    simp [h, this]
theorem xor_lt {a b k : Nat} (ha : a < 2 ^ k) (hb : b < 2 ^ k) : a ^^^ b < 2 ^ k := Nat.xor_lt_two_pow ha hb

theorem step_xor (a b : Nat) : bstep (a ^^^ b) = bstep a ^^^ bstep b := by
  have h1 := xor_div a b 1
  have h2 := xor_mod a b 1
  simp only [Nat.pow_one] at h1 h2
  unfold bstep
  rw [h1, h2, xor4]
  congr 1
  rcases Nat.mod_two_eq_zero_or_one a with ha | ha <;> rcases Nat.mod_two_eq_zero_or_one b with hb | hb <;> simp [ha, hb]
theorem steps_xor : ∀ (k a b : Nat), bsteps k (a ^^^ b) = bsteps k a ^^^ bsteps k b
  | 0, _, _ => rfl
  | k + 1, a, b => by simp only [bsteps]; rw [step_xor, steps_xor k]
theorem steps_add : ∀ (j k n : Nat), bsteps (j + k) n = bsteps k (bsteps j n)
  | 0, k, n => by simp [bsteps]
  | j + 1, k, n => by rw [Nat.add_right_comm]; simp only [bsteps]; exact steps_add j k _
theorem steps_snoc (k n : Nat) : bsteps (k + 1) n = bstep (bsteps k n) := by rw [steps_add]; rfl
theorem step_even (x : Nat) : bstep (x * 2) = x := by unfold bstep; simp
theorem steps_shift : ∀ (k x : Nat), bsteps k (x * 2 ^ k) = x
  | 0, x => by simp [bsteps]
  | k + 1, x => by
    simp only [bsteps]
    rw [Nat.pow_succ, ← Nat.mul_assoc, step_even, steps_shift k]
theorem steps_zero (k : Nat) : bsteps k 0 = 0 := by have := steps_shift k 0; simpa using this

theorem byteN_eq (c b : Nat) (hb : b < 256) : byteN c b = bsteps 8 (c ^^^ b) := by
  have h := split_xor (c ^^^ b) 8
  rw [h, steps_xor, steps_shift, xor_mod, xor_div]
  have h1 : b % 2 ^ 8 = b := Nat.mod_eq_of_lt hb
  have h2 : b / 2 ^ 8 = 0 := Nat.div_eq_of_lt hb
  rw [h1, h2, Nat.xor_zero]
  rfl

theorem run_eq : ∀ (l : List UInt8) (c : Nat), crun c l = bsteps (8 * l.length) (c ^^^ leN l)
  | [], c => by simp [crun, leN, bsteps]
  | b :: l, c => by
    simp only [crun, leN, List.length_cons]
    rw [run_eq l, byteN_eq _ _ (UInt8.toNat_lt b), show 8 * (l.length + 1) = 8 + 8 * l.length by omega, steps_add, ← Nat.xor_assoc, steps_xor 8 (c ^^^ b.toNat)]
    rw [show leN l * 256 = leN l * 2 ^ 8 from rfl, steps_shift]
theorem run_append : ∀ (a b : List UInt8) (c : Nat), crun c (a ++ b) = crun (crun c a) b
  | [], b, c => rfl
  | x :: a, b, c => by simp only [List.cons_append, crun]; exact run_append a b _
theorem run_snoc (a : List UInt8) (x : UInt8) (c : Nat) : crun c (a ++ [x]) = byteN (crun c a) x.toNat := by rw [run_append]; rfl

theorem step_lt {n : Nat} (h : n < 4294967296) : bstep n < 4294967296 := by
  unfold bstep
  refine xor_lt (k := 32) (by omega) ?_
  have : poly = 3988292384 := rfl
  rcases Nat.mod_two_eq_zero_or_one n with ha | ha <;> rw [ha] <;> omega
theorem steps_lt : ∀ (k : Nat) {n : Nat}, n < 4294967296 → bsteps k n < 4294967296
  | 0, _, h => h
  | k + 1, _, h => steps_lt k (step_lt h)
theorem step_ne {n : Nat} (h : n < 4294967296) (h0 : n ≠ 0) : bstep n ≠ 0 := by
  unfold bstep
  rcases Nat.mod_two_eq_zero_or_one n with ha | ha
  · rw [ha]; simp; omega
  · rw [ha, Nat.one_mul]
    intro he
    have hb : (n / 2 ^^^ poly).testBit 31 = true := by
      rw [Nat.testBit_xor, Nat.testBit_lt_two_pow (show n / 2 < 2 ^ 31 by omega)]
      decide
    rw [he] at hb
    simp at hb
theorem steps_ne : ∀ (k : Nat) {n : Nat}, n < 4294967296 → n ≠ 0 → bsteps k n ≠ 0
  | 0, _, _, h => h
  | k + 1, _, h, h0 => steps_ne k (step_lt h) (step_ne h h0)

theorem entry_lt {n : Nat} (h : n < 4294967296) : entry n < 4294967296 := steps_lt 8 h
theorem mix_lt {c b : Nat} (hb : b < 256) : c % 256 ^^^ b < 256 := xor_lt (k := 8) (by omega) hb
theorem byteN_lt {c b : Nat} (hc : c < 4294967296) (hb : b < 256) : byteN c b < 4294967296 :=
  xor_lt (k := 32) (entry_lt (by have := mix_lt (c := c) hb; omega)) (by omega)
theorem run_lt : ∀ (l : List UInt8) {c : Nat}, c < 4294967296 → crun c l < 4294967296
  | [], _, h => h
  | b :: l, _, h => run_lt l (byteN_lt h (UInt8.toNat_lt b))
theorem inv_lt (c : Nat) : cinv c < 4294967296 := by unfold cinv; omega
theorem on_lt (c : Nat) (l : List UInt8) : con c l < 4294967296 := inv_lt _
theorem inv_inv {c : Nat} (h : c < 4294967296) : cinv (cinv c) = c := by unfold cinv; omega
theorem inv_xor {c : Nat} (h : c < 4294967296) : cinv c = c ^^^ 4294967295 := by
  have e : (BitVec.ofNat 32 c).toNat = c := by simp; omega
  have h1 : (~~~ (BitVec.ofNat 32 c)).toNat = 2 ^ 32 - 1 - c := by rw [BitVec.toNat_not, e]
  have h2 : (BitVec.ofNat 32 c ^^^ BitVec.allOnes 32).toNat = c ^^^ (2 ^ 32 - 1) := by rw [BitVec.toNat_xor, e, BitVec.toNat_allOnes]
  rw [BitVec.xor_allOnes, h1] at h2
  unfold cinv
  simpa using h2
theorem inv_inj {a b : Nat} (ha : a < 4294967296) (hb : b < 4294967296) (h : cinv a = cinv b) : a = b := by unfold cinv at h; omega

/-- P2.3: parts. -/
theorem on_append (c : Nat) (a b : List UInt8) : con (con c a) b = con c (a ++ b) := by
  unfold con
  rw [inv_inv (run_lt a (inv_lt c)), run_append]

/-- Three strings' exclusive or. -/
def xor3 : List UInt8 → List UInt8 → List UInt8 → List UInt8
  | x :: a, y :: b, z :: c => (x ^^^ y ^^^ z) :: xor3 a b c
  | _, _, _ => []
theorem xor3_length : ∀ (a b c : List UInt8), a.length = b.length → a.length = c.length → (xor3 a b c).length = a.length
  | [], _, _, _, _ => by simp [xor3]
  | x :: a, y :: b, z :: c, h1, h2 => by
    simp only [List.length_cons, Nat.add_right_cancel_iff] at h1 h2
    simp [xor3, xor3_length a b c h1 h2]
  | x :: a, [], _, h1, _ => by simp at h1
  | x :: a, y :: b, [], _, h2 => by simp at h2
theorem mul_xor (a b k : Nat) : (a ^^^ b) * 2 ^ k = a * 2 ^ k ^^^ b * 2 ^ k := by
  rw [← Nat.shiftLeft_eq, ← Nat.shiftLeft_eq, ← Nat.shiftLeft_eq, Nat.shiftLeft_xor_distrib]
theorem leN_xor3 : ∀ (a b c : List UInt8), a.length = b.length → a.length = c.length → leN (xor3 a b c) = leN a ^^^ leN b ^^^ leN c
  | [], [], [], _, _ => by simp [xor3, leN]
  | x :: a, y :: b, z :: c, h1, h2 => by
    simp only [List.length_cons, Nat.add_right_cancel_iff] at h1 h2
    simp only [xor3, leN]
    rw [leN_xor3 a b c h1 h2, UInt8.toNat_xor, UInt8.toNat_xor, show (256 : Nat) = 2 ^ 8 from rfl, mul_xor, mul_xor, xor6]
  | x :: a, [], _, h1, _ => by simp at h1
  | x :: a, y :: b, [], _, h2 => by simp at h2
  | [], y :: b, _, h1, _ => by simp at h1
  | [], [], z :: c, _, h2 => by simp at h2
theorem xor_same3 (m : Nat) : m ^^^ m ^^^ m = m := by rw [Nat.xor_self, Nat.zero_xor]
theorem run_xor3 (m : Nat) (a b c : List UInt8) (h1 : a.length = b.length) (h2 : a.length = c.length) : crun m (xor3 a b c) = crun m a ^^^ crun m b ^^^ crun m c := by
  rw [run_eq, run_eq, run_eq, run_eq, xor3_length a b c h1 h2, leN_xor3 a b c h1 h2, ← h1, ← h2, ← steps_xor, ← steps_xor]
  congr 1
  rw [xor6, xor_same3]
/-- P2.3: three strings. -/
theorem on_xor3 (a b c : List UInt8) (h1 : a.length = b.length) (h2 : a.length = c.length) : con 0 a ^^^ con 0 b ^^^ con 0 c = con 0 (xor3 a b c) := by
  unfold con
  rw [run_xor3 _ a b c h1 h2]
  have A := run_lt a (inv_lt 0)
  have B := run_lt b (inv_lt 0)
  have C := run_lt c (inv_lt 0)
  rw [inv_xor A, inv_xor B, inv_xor C, inv_xor (xor_lt (k := 32) (xor_lt (k := 32) A B) C), xor6, xor_same3]

/-- One bit of one byte turned. -/
theorem leN_set : ∀ (l : List UInt8) (j r : Nat) (x : UInt8), l[j]? = some x → r < 8 → leN (l.set j (x ^^^ UInt8.ofNat (2 ^ r))) = leN l ^^^ 2 ^ (8 * j + r)
  | [], j, r, x, h, _ => by simp at h
  | b :: l, 0, r, x, h, hr => by
    simp only [List.getElem?_cons_zero, Option.some.injEq] at h
    subst h
    simp only [List.set_cons_zero, leN, UInt8.toNat_xor]
    have : (UInt8.ofNat (2 ^ r)).toNat = 2 ^ r := by
      have : 2 ^ r < 2 ^ 8 := Nat.pow_lt_pow_right (by omega) hr
      simp; omega
    rw [this, Nat.mul_zero, Nat.zero_add, Nat.xor_assoc, Nat.xor_comm (2 ^ r), Nat.xor_assoc]
  | b :: l, j + 1, r, x, h, hr => by
    simp only [List.getElem?_cons_succ] at h
    simp only [List.set_cons_succ, leN]
    rw [leN_set l j r x h hr, show (256 : Nat) = 2 ^ 8 from rfl, mul_xor, ← Nat.pow_add, Nat.xor_assoc, show 8 * j + r + 8 = 8 * (j + 1) + r by omega]
/-- P2.3: turned bits. -/
theorem on_turned (a b : List UInt8) (m k : Nat) (hl : a.length = b.length) (hm : m < 4294967296) (hk : k ≤ 8 * b.length) (he : leN a = leN b ^^^ m * 2 ^ k) : (con 0 a = con 0 b) ↔ m = 0 := by
  have e : crun (cinv 0) a = crun (cinv 0) b ^^^ bsteps (8 * b.length - k) m := by
    rw [run_eq, run_eq, hl, he, ← Nat.xor_assoc, steps_xor (8 * b.length) (cinv 0 ^^^ leN b)]
    congr 1
    rw [show 8 * b.length = k + (8 * b.length - k) by omega, steps_add, steps_shift]
    congr 1
    omega
  constructor
  · intro h
    have h' := inv_inj (run_lt a (inv_lt 0)) (run_lt b (inv_lt 0)) h
    rw [e] at h'
    by_cases h0 : m = 0
    · exact h0
    · exfalso
      refine steps_ne (8 * b.length - k) hm h0 ?_
      have := congrArg (fun x => crun (cinv 0) b ^^^ x) h'
      simpa [← Nat.xor_assoc] using this
  · intro h
    subst h
    unfold con
    rw [e, steps_zero, Nat.xor_zero]

end Go.Proofs.Ytgilfjojimgpaaa.Cm
