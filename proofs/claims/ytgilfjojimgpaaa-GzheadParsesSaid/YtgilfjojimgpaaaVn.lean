/-
  vint.Number, called with any string, any offset and any width: its results; nothing that was there has changed.
-/
import Derived.Test.YtgilfjojimgpaaaVf
import Derived.Test.YtgilfjojimgpaaaVb
namespace Go.Proofs.Ytgilfjojimgpaaa.Vn
open Go.RowKit Go.Proofs.Ytgilfjojimgpaaa.Vm Go.Proofs.Ytgilfjojimgpaaa.Vo Go.Proofs.Ytgilfjojimgpaaa.Vw Go.Proofs.Ytgilfjojimgpaaa.Vb Go.Proofs.Ytgilfjojimgpaaa.Vf Go.PlainAid

/-- The fixed number that k bytes make, from byte a of a string on. -/
def num (s : ByteArray) (a : Nat) : Nat → Nat
  | 0 => 0
  | k + 1 => num s a k + (bt s (a + k)).toNat * 256 ^ k

theorem num_lt (s : ByteArray) (a : Nat) : ∀ k, num s a k < 256 ^ k
  | 0 => by simp [num]
  | k + 1 => by
    have h1 := bt_le s (a + k)
    exact join_lt (by omega) (num_lt s a k)
theorem num_top (s : ByteArray) (a : Nat) {k : Nat} (h : k ≤ 8) : num s a k < 18446744073709551616 := by
  have h1 := num_lt s a k
  have : 256 ^ k ≤ 256 ^ 8 := Nat.pow_le_pow_right (by omega) h
  simp at this
  omega
theorem num_round (s : ByteArray) (a k : Nat) (h : k < 8) :
    bits .or .i64 (wrap64 (num s a k : Nat)) (wrap64 (bt s (a + k) * 2 ^ (8 * k))) = wrap64 (num s a (k + 1) : Nat) := by
  have h0 := bt_nonneg s (a + k)
  have h1 := bt_le s (a + k)
  have h := join8 k (num s a k) (bt s (a + k)).toNat h (by omega) (num_lt s a k)
  rw [show ((bt s (a + k)).toNat : Int) = bt s (a + k) by omega] at h
  exact h

/-- What Number answers. -/
def numR (s : ByteArray) (a W : Int) : Int × Int :=
  if wid W = false ∨ a < 0 then (0, 1)
  else if (s.size : Int) - a < W then (0, 2)
  else if num s a.toNat W.toNat < 9223372036854775808 then (num s a.toNat W.toNat, 0) else (0, 18)

theorem numR_ok {s : ByteArray} {a W : Nat} (hW : wid (W : Int) = true) (ha : a + W ≤ s.size) (h : num s a W < 9223372036854775808) : numR s a W = ((num s a W : Int), 0) := by
  have h1 : ¬ (s.size : Int) - (a : Int) < (W : Int) := by omega
  have h2 : ¬ (a : Int) < 0 := by omega
  simp [numR, hW, h, h1, h2]
theorem numR_range {s : ByteArray} {a W : Nat} (hW : wid (W : Int) = true) (ha : a + W ≤ s.size) (h : ¬ num s a W < 9223372036854775808) : numR s a W = (0, 18) := by
  have h1 : ¬ (s.size : Int) - (a : Int) < (W : Int) := by omega
  have h2 : ¬ (a : Int) < 0 := by omega
  simp [numR, hW, h, h1, h2]

set_option maxRecDepth 100000 in
theorem Number_in (s : ByteArray) (a W : Nat) (w : World) (_hs : s.size ≤ 9223372036854775807) (hW : wid (W : Int) = true) (_hW1 : 1 ≤ W) (hW8 : W ≤ 8) (ha : a + W ≤ s.size) :
    Calls Try.prog 40 #[.string s, .int .i64 a, .int .i64 W] w fun e w' => e = .returned (.tuple #[.int .i64 (numR s a W).1, .int .i64 (numR s a W).2]) ∧ w = w' := by
  have hb := get_bt s
  go_enter Try.func40, Try.ntmps40
  go_wp2_with (go_at_call 43; refine (isWidth_any _ _).mono ?_; rintro e w' ⟨rfl, rfl⟩)
  go_loop [8, 24] (fun n i => ∃ k : Nat, i = .int .i64 k ∧ k ≤ W ∧ n = .int .i64 (wrap64 (num s a k : Nat)))
    (fun _ i => W - (intOf i).toNat)
  case atStart => exact ⟨0, rfl, by omega, by simp [num, wrap64]⟩
  case round =>
    obtain ⟨k, rfl, hk, rfl⟩ := hrel
    have hc0 := bt_nonneg s (a + k)
    have hc1 := bt_le s (a + k)
    by_cases hlt : k < W
    · have hr := num_round s a k (by omega)
      have HR := Lib.hid hr
      clear hr
      go_wp2
      go_round
      case rel => exact ⟨k + 1, by go_num, by omega, by rw [HR.out]⟩
      case measure => simp [intOf]; omega
    · obtain rfl : k = W := by omega
      have ht := num_top s a hW8
      by_cases hn : num s a k < 9223372036854775808
      · have hw := wrap64_in (n := (num s a k : Int)) (by omega) (by omega)
        have H := Lib.hid (numR_ok hW ha hn)
        go_wp2
        go_ret2
        exact ⟨ret_int2 (by rw [H.out]) (by rw [H.out]), rfl⟩
      · have hw := wrap64_neg (X := num s a k) (by omega) ht
        have H := Lib.hid (numR_range hW ha hn)
        go_wp2
        go_ret2
        exact ⟨ret_int2 (by rw [H.out]) (by rw [H.out]), rfl⟩

theorem Number_any (s : ByteArray) (a W : Int) (w : World) (hs : s.size ≤ 9223372036854775807) (_ha : a ≤ 9223372036854775807) :
    Calls Try.prog 40 #[.string s, .int .i64 a, .int .i64 W] w fun e w' => e = .returned (.tuple #[.int .i64 (numR s a W).1, .int .i64 (numR s a W).2]) ∧ w = w' := by
  by_cases hW : wid W = true
  · have hb := wid_bounds hW
    obtain ⟨V, rfl⟩ := Int.eq_ofNat_of_zero_le (show 0 ≤ W by omega)
    by_cases h0 : a < 0
    · have H := Lib.hid (show numR s a V = (0, 1) by simp [numR, h0])
      go_enter Try.func40, Try.ntmps40
      go_wp2_with (go_at_call 43; refine (isWidth_any _ _).mono ?_; rintro e w' ⟨rfl, rfl⟩)
      go_ret2
      exact ⟨ret_int2 (by rw [H.out]) (by rw [H.out]), rfl⟩
    · obtain ⟨b, rfl⟩ := Int.eq_ofNat_of_zero_le (show 0 ≤ a by omega)
      by_cases hl : (s.size : Int) - (b : Int) < (V : Int)
      · have H := Lib.hid (show numR s b V = (0, 2) by simp [numR, hW, hl])
        go_enter Try.func40, Try.ntmps40
        go_wp2_with (go_at_call 43; refine (isWidth_any _ _).mono ?_; rintro e w' ⟨rfl, rfl⟩)
        go_ret2
        exact ⟨ret_int2 (by rw [H.out]) (by rw [H.out]), rfl⟩
      · exact Number_in s b V w hs hW (by omega) (by omega) (by omega)
  · have hW' : wid W = false := by simpa using hW
    have H := Lib.hid (show numR s a W = (0, 1) by simp [numR, hW'])
    clear hW
    go_enter Try.func40, Try.ntmps40
    go_wp2_with (go_at_call 43; refine (isWidth_any _ _).mono ?_; rintro e w' ⟨rfl, rfl⟩)
    go_ret2
    exact ⟨ret_int2 (by rw [H.out]) (by rw [H.out]), rfl⟩

end Go.Proofs.Ytgilfjojimgpaaa.Vn
