/-
  Fixed numbers there and back: what was laid down is read as it was.
-/
import Derived.Test.YtacklgianijbpaaVq
import Derived.Test.YtacklgianijbpaaVn
namespace Go.Proofs.Ytacklgianijbpaa.Vr
open Go.RowKit Go.Proofs.Ytacklgianijbpaa.Vm Go.Proofs.Ytacklgianijbpaa.Vb Go.Proofs.Ytacklgianijbpaa.Vq Go.Proofs.Ytacklgianijbpaa.Vn Go.Proofs.Ytacklgianijbpaa.Vf Go.Proofs.Ytacklgianijbpaa.Vw Go.PlainAid

theorem bt_at {s : ByteArray} {a W n k : Nat} {r : List UInt8} (h : s.data.toList.drop a = le W n ++ r) (hk : k < W) : bt s (a + k) = ((n / 256 ^ k % 256 : Nat) : Int) := by
  have h1 : s.data.toList[a + k]? = some (UInt8.ofNat (n / 256 ^ k % 256)) := by
    rw [← List.getElem?_drop, h, List.getElem?_append_left (by rw [le_length]; exact hk), le_get W n k hk]
  have hlt : a + k < s.data.toList.length := (List.getElem?_eq_some_iff.1 h1).1
  have h2 : s.data.toList[a + k] = UInt8.ofNat (n / 256 ^ k % 256) := (List.getElem?_eq_some_iff.1 h1).2
  have hs : a + k < s.size := by
    have : s.data.toList.length = s.size := by rw [Array.length_toList]; rfl
    omega
  unfold bt
  rw [dif_pos hs]
  have e : s[a + k] = s.data.toList[a + k] := rfl
  rw [e, h2]
  simp

theorem num_mod {s : ByteArray} {a W n : Nat} {r : List UInt8} (h : s.data.toList.drop a = le W n ++ r) : ∀ k, k ≤ W → num s a k = n % 256 ^ k
  | 0, _ => by simp [num, Nat.mod_one]
  | k + 1, hk => by
    rw [num, num_mod h k (by omega), bt_at h (by omega), Int.toNat_natCast, Nat.mod_pow_succ, Nat.mul_comm (256 ^ k)]

/-- Number at the place of a fixed number. -/
theorem numR_at {s : ByteArray} {a W n : Nat} {r : List UInt8} (hW : wid (W : Int) = true) (h : s.data.toList.drop a = le W n ++ r) (hn : n < 9223372036854775808) (hf : n / 256 ^ W = 0) : numR s a W = ((n : Int), 0) := by
  have hb := wid_bounds hW
  have hm : num s a W = n := by
    rw [num_mod h W (Nat.le_refl _)]
    exact Nat.mod_eq_of_lt (by
      rcases (Nat.div_eq_zero_iff).1 hf with h0 | h0
      · exact absurd h0 (by have := Nat.pow_pos (n := W) (show 0 < 256 by omega); omega)
      · exact h0)
  have hl : a + W ≤ s.size := by
    have h1 := congrArg List.length h
    have : s.data.toList.length = s.size := by rw [Array.length_toList]; rfl
    rw [List.length_drop, List.length_append, le_length] at h1
    omega
  rw [numR_ok hW hl (by rw [hm]; exact hn), hm]

end Go.Proofs.Ytacklgianijbpaa.Vr
