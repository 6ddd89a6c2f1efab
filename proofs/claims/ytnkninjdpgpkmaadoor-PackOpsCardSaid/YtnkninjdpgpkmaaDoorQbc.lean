/-
  The reference's writer (collimatorref04): its methods: their results, the bits behind them; of what was there only the writer and its bits have changed.
  Conditions: as each theorem says.
-/
import Derived.Test.YtnkninjdpgpkmaaDoorQbb
import Derived.Deep.LoopGhost
namespace Go.Proofs.YtnkninjdpgpkmaaDoor.Be
open Go.RowKit Go.Proofs.YtnkninjdpgpkmaaDoor.Vm Go.Proofs.YtnkninjdpgpkmaaDoor.Vo Go.Proofs.YtnkninjdpgpkmaaDoor.Bm Go.Proofs.YtnkninjdpgpkmaaDoor.Bo Go.Proofs.YtnkninjdpgpkmaaDoor.Bt Go.Proofs.YtnkninjdpgpkmaaDoor.Bw Go.Proofs.YtnkninjdpgpkmaaDoor.Br Go.Proofs.YtnkninjdpgpkmaaDoor.Bv Go.Proofs.YtnkninjdpgpkmaaDoor.Bx Go.PlainAid

/-- The number of bits, the first one's value 1. -/
def bitN : List UInt8 → Nat
  | [] => 0
  | b :: r => b.toNat + 2 * bitN r
theorem bitN_append : ∀ (a b : List UInt8), bitN (a ++ b) = bitN a + 2 ^ a.length * bitN b
  | [], b => by simp [bitN]
  | x :: a, b => by
    simp only [List.cons_append, bitN, List.length_cons]
    rw [bitN_append a b, Nat.pow_succ, Nat.mul_add, Nat.mul_comm (2 ^ a.length) 2, Nat.mul_assoc]
    omega
theorem bitN_snoc (a : List UInt8) (x : UInt8) : bitN (a ++ [x]) = bitN a + 2 ^ a.length * x.toNat := by rw [bitN_append]; simp [bitN]
theorem bitN_lt : ∀ (a : List UInt8), (∀ x ∈ a, x.toNat ≤ 1) → bitN a < 2 ^ a.length
  | [], _ => by simp [bitN]
  | x :: a, h => by
    have h1 := h x (by simp)
    have h2 := bitN_lt a (fun y hy => h y (by simp [hy]))
    simp only [bitN, List.length_cons]
    rw [Nat.pow_succ]
    omega

theorem bit_of (y i : Nat) : ∃ x : UInt8, x.toNat = y / 2 ^ i % 2 ∧ x.toNat ≤ 1 := by
  refine ⟨UInt8.ofNat (y / 2 ^ i % 2), ?_, ?_⟩ <;> simp <;> omega

theorem bit_next {b1 bs : List UInt8} {x : UInt8} {y k : Nat} (hl : b1.length = bs.length + k) (hn : bitN b1 = bitN bs + y % 2 ^ k * 2 ^ bs.length) (hx : x.toNat = y / 2 ^ k % 2) :
    bitN (b1 ++ [x]) = bitN bs + y % 2 ^ (k + 1) * 2 ^ bs.length := by
  have h := peekN_add y 0 k 1
  unfold peekN at h
  simp only [Nat.pow_zero, Nat.div_one, Nat.zero_add, Nat.pow_one] at h
  rw [bitN_snoc, hn, hl, hx, h, Nat.pow_add, Nat.add_mul, Nat.add_assoc]
  congr 2
  rw [Nat.mul_comm (2 ^ bs.length), Nat.mul_assoc, Nat.mul_assoc, Nat.mul_comm (2 ^ bs.length)]

/-- What is refused. -/
theorem out_cases (x : Int) (m : Nat) (hm : m ≤ 32) (h : ¬ x / 2 ^ m = 0) : x < 0 ∨ (0 ≤ x ∧ wrap64 (2 ^ m) ≤ x) := by
  rcases Int.lt_or_le x 0 with h0 | h0
  · exact .inl h0
  · obtain ⟨y, rfl⟩ := Int.eq_ofNat_of_zero_le h0
    refine .inr ⟨h0, ?_⟩
    have e : (2 : Int) ^ m = ((2 ^ m : Nat) : Int) := by push_cast; rfl
    have e1 : (y : Int) / 2 ^ m = ((y / 2 ^ m : Nat) : Int) := by simp
    have h1 : 2 ^ m ≤ 2 ^ 32 := Nat.pow_le_pow_right (by omega) hm
    have h2 : ¬ y < 2 ^ m := fun hl => h (by rw [e1, Nat.div_eq_of_lt hl]; rfl)
    have h3 : 0 < 2 ^ m := Nat.two_pow_pos m
    clear e1 h
    rw [e]
    generalize 2 ^ m = M at *
    rw [wrap64_in (by omega) (by omega)]
    omega

/-- Bits 0 behind bits. -/
theorem zeros_next (bs : List UInt8) (k : Nat) : bs ++ List.replicate k 0 ++ [(0 : UInt8)] = bs ++ List.replicate (k + 1) 0 := by
  rw [List.append_assoc, ← List.replicate_succ']
theorem zeros_bitN (bs : List UInt8) (k : Nat) : bitN (bs ++ List.replicate k 0) = bitN bs := by
  have h : ∀ k, bitN (List.replicate k 0) = 0 := by
    intro k
    induction k with
    | zero => rfl
    | succ k ih => simp [List.replicate_succ, bitN, ih]
  rw [bitN_append, h]; simp

end Go.Proofs.YtnkninjdpgpkmaaDoor.Be
