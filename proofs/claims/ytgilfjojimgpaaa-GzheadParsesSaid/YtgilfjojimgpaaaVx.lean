/-
  The document's own answers for Get, Number and Next (the verifier's functions), called with any values: they are the same plain functions.
-/
import Derived.Test.YtgilfjojimgpaaaVz
namespace Go.Proofs.Ytgilfjojimgpaaa.Vx
open Go.RowKit Go.Proofs.Ytgilfjojimgpaaa.Vm Go.Proofs.Ytgilfjojimgpaaa.Vo Go.Proofs.Ytgilfjojimgpaaa.Vw Go.Proofs.Ytgilfjojimgpaaa.Vb Go.Proofs.Ytgilfjojimgpaaa.Vg Go.Proofs.Ytgilfjojimgpaaa.Vf Go.Proofs.Ytgilfjojimgpaaa.Vn Go.Proofs.Ytgilfjojimgpaaa.Vt Go.Proofs.Ytgilfjojimgpaaa.Vz Go.PlainAid

/-- The unit of round k. -/
theorem unit_of {k : Nat} {U : Int} (h9 : k < 9) (HU : Hid (U = wrap64 ((128 ^ k : Nat) : Int))) : U = ((128 ^ k : Nat) : Int) := by
  have h := pow128_le h9
  rw [HU.out]
  generalize 128 ^ k = p at *
  exact wrap64_in (by omega) (by omega)
theorem unit_sum {k X c : Nat} {U : Int} (h9 : k < 9) (hc : c < 128) (HU : Hid (U = wrap64 ((128 ^ k : Nat) : Int))) (hX : X < 128 ^ k) :
    wrap64 ((X : Int) + wrap64 ((c : Int) * U)) = ((X + c * 128 ^ k : Nat) : Int) := by
  obtain ⟨_, h2, h3⟩ := join7 k X c h9 hc hX
  rw [unit_of h9 HU]
  have e : (c : Int) * ((128 ^ k : Nat) : Int) = ((c * 128 ^ k : Nat) : Int) := by push_cast; rfl
  rw [e, wrap64_in (n := ((c * 128 ^ k : Nat) : Int)) (by omega) (by omega), ← Int.natCast_add, wrap64_in (by omega) (by omega)]

theorem rget_next {s : ByteArray} {a k X : Nat} {U : Int} (h9 : k < 9) (hr : a + k < s.size) (h : 128 ≤ bt s (a + k)) (HU : Hid (U = wrap64 ((128 ^ k : Nat) : Int))) (HX : Hid (X < 128 ^ k))
    (HG : Hid (getk 0 0 (s.data.toList.drop a) = getk k X (s.data.toList.drop (a + k)))) :
    ∃ X' : Nat, wrap64 ((X : Int) + wrap64 (bt s (a + k) % 128 * U)) = (X' : Int) ∧ X' ≤ 9223372036854775807 ∧ Hid (wrap64 (U * 128) = wrap64 ((128 ^ (k + 1) : Nat) : Int)) ∧ Hid (X' < 128 ^ (k + 1)) ∧
      Hid (getk 0 0 (s.data.toList.drop a) = getk (k + 1) X' (s.data.toList.drop (a + (k + 1)))) := by
  obtain ⟨b, hd, hb⟩ := drop_bt s (a + k) hr
  obtain ⟨_, h2, h3⟩ := join7 k X (b.toNat % 128) h9 (by omega) HX.out
  refine ⟨X + b.toNat % 128 * 128 ^ k, ?_, h3, Lib.hid ?_, Lib.hid h2, Lib.hid ?_⟩
  · rw [hb, show ((b.toNat : Int) % 128) = ((b.toNat % 128 : Nat) : Int) by omega]
    exact unit_sum h9 (by omega) HU HX.out
  · rw [unit_of h9 HU, Nat.pow_succ]
    push_cast
    rfl
  · rw [HG.out, hd, getk, if_neg (by omega), if_pos (by omega)]
    rfl

theorem rget_last {s : ByteArray} {a k X : Nat} {U : Int} (h9 : k < 9) (hr : a + k < s.size) (h : bt s (a + k) < 128) (h0 : ¬ (bt s (a + k) = 0 ∧ 0 < k)) (HU : Hid (U = wrap64 ((128 ^ k : Nat) : Int))) (HX : Hid (X < 128 ^ k))
    (HG : Hid (getk 0 0 (s.data.toList.drop a) = getk k X (s.data.toList.drop (a + k)))) :
    ∃ X' : Nat, wrap64 ((X : Int) + wrap64 (bt s (a + k) % 128 * U)) = (X' : Int) ∧ Hid (getR s a = ((X' : Int), (a : Int) + (k : Int) + 1, 0)) := by
  obtain ⟨b, hd, hb⟩ := drop_bt s (a + k) hr
  refine ⟨X + b.toNat * 128 ^ k, ?_, Lib.hid ?_⟩
  · rw [hb, show ((b.toNat : Int) % 128) = (b.toNat : Int) by omega]
    exact unit_sum h9 (by omega) HU HX.out
  · have hg : getk 0 0 (s.data.toList.drop a) = (X + b.toNat * 128 ^ k, k + 1, 0) := by
      rw [HG.out, hd, getk, if_neg (by omega), if_neg (by omega), if_neg (by omega)]
    have ha : ¬ (a : Int) < 0 := by omega
    simp only [getR, if_neg ha, Int.toNat_natCast, hg, if_true]
    refine Prod.ext rfl (Prod.ext ?_ rfl)
    show (a : Int) + ((k + 1 : Nat) : Int) = (a : Int) + (k : Int) + 1
    omega

theorem rget_no {s : ByteArray} {a : Nat} {e : Int} (he : e ≠ 0) (h : getk 0 0 (s.data.toList.drop a) = (0, 0, e)) : getR s a = (0, 0, e) := by
  have ha : ¬ (a : Int) < 0 := by omega
  simp [getR, ha, h, he]
theorem rget_zero {s : ByteArray} {a k X : Nat} (h9 : k < 9) (hr : a + k < s.size) (h : bt s (a + k) = 0) (h0 : 0 < k) (HG : Hid (getk 0 0 (s.data.toList.drop a) = getk k X (s.data.toList.drop (a + k)))) : Hid (getR s a = (0, 0, 4)) := by
  obtain ⟨b, hd, hb⟩ := drop_bt s (a + k) hr
  exact Lib.hid (rget_no (by decide) (by rw [HG.out, hd, getk, if_neg (by omega), if_neg (by omega), if_pos (by omega)]))
theorem rget_short {s : ByteArray} {a k X : Nat} (h9 : k < 9) (hr : ¬ a + k < s.size) (HG : Hid (getk 0 0 (s.data.toList.drop a) = getk k X (s.data.toList.drop (a + k)))) : Hid (getR s a = (0, 0, 2)) :=
  Lib.hid (rget_no (by decide) (by rw [HG.out, drop_end s (a + k) hr, getk, if_neg (by omega)]))
theorem rget_nine {s : ByteArray} {a k X : Nat} (h9 : ¬ k < 9) (HG : Hid (getk 0 0 (s.data.toList.drop a) = getk k X (s.data.toList.drop (a + k)))) : Hid (getR s a = (0, 0, 4)) :=
  Lib.hid (rget_no (by decide) (by rw [HG.out]; cases s.data.toList.drop (a + k) <;> rw [getk, if_pos (by omega)]))

/-! ### Number -/
theorem num_head (s : ByteArray) : ∀ (k a : Nat), num s a (k + 1) = (bt s a).toNat + 256 * num s (a + 1) k
  | 0, a => by simp [num]
  | k + 1, a => by
    rw [num, num_head s k a, num, Nat.mul_add, Nat.pow_succ, show a + (k + 1) = a + 1 + k by omega, Nat.add_assoc]
    congr 2
    rw [Nat.mul_comm (256 ^ k) 256, ← Nat.mul_assoc, ← Nat.mul_assoc, Nat.mul_comm 256]

/-- One byte more, from the top down. -/
theorem num_down {s : ByteArray} {a W j Y : Nat} (hj : j < W) (hW : W ≤ 8) (HY : Hid (Y = num s (a + (j + 1)) (W - (j + 1)))) :
    Y ≤ 72057594037927935 ∧ Hid (256 * Y + (bt s (a + j)).toNat = num s (a + j) (W - j)) := by
  have h1 := num_lt s (a + (j + 1)) (W - (j + 1))
  have h2 := pow256_le (k := W - (j + 1)) (by omega)
  refine ⟨by rw [HY.out]; omega, Lib.hid ?_⟩
  rw [HY.out, show W - j = (W - (j + 1)) + 1 by omega, num_head, show a + (j + 1) = a + j + 1 by omega]
  omega

set_option maxRecDepth 100000 in
theorem rNumber_in (s : ByteArray) (a W : Nat) (w : World) (_hs : s.size ≤ 9223372036854775807) (hW : wid (W : Int) = true) (_hW1 : 1 ≤ W) (hW8 : W ≤ 8) (ha : a + W ≤ s.size) :
    Calls Try.prog 32 #[.string s, .int .i64 a, .int .i64 W] w fun e w' => e = .returned (.tuple #[.int .i64 (numR s a W).1, .int .i64 (numR s a W).2]) ∧ w = w' := by
  have hb := get_bt s
  go_enter Try.func32, Try.ntmps32
  go_wp2_with (go_at_call 42; refine (wide_any _ _).mono ?_; rintro e w' ⟨rfl, rfl⟩)
  go_loop [8, 9] (fun u i => ∃ (I : Int) (Y : Nat), i = .int .i64 I ∧ -1 ≤ I ∧ I < W ∧ u = .int .u64 Y ∧ Y ≤ 18446744073709551615 ∧ Hid (Y = num s (a + (I + 1).toNat) (W - (I + 1).toNat)))
    (fun _ i => (intOf i + 1).toNat)
  case atStart => exact ⟨(W : Int) - 1, 0, rfl, by omega, by omega, rfl, by omega, Lib.hid (by simp [num])⟩
  case round =>
    obtain ⟨I, Y, rfl, hI, hIW, rfl, hY, HY⟩ := hrel
    by_cases hI0 : 0 ≤ I
    · obtain ⟨j, rfl⟩ := Int.eq_ofNat_of_zero_le hI0
      have hc0 := bt_nonneg s (a + j)
      have hc1 := bt_le s (a + j)
      obtain ⟨hY1, HY1⟩ := num_down (a := a) (W := W) (j := j) (Y := Y) (by omega) hW8 (Lib.hid (by rw [HY.out]; rfl))
      go_wp2
      go_round
      case rel => exact ⟨(j : Int) - 1, 256 * Y + (bt s (a + j)).toNat, rfl, by omega, by omega, by go_num, by omega, Lib.hid (by rw [HY1.out, show ((j : Int) - 1 + 1).toNat = j by omega])⟩
      case measure => simp [intOf]
    · obtain rfl : I = -1 := by omega
      have HZ : Hid (Y = num s a W) := Lib.hid (by rw [HY.out]; rfl)
      clear HY
      have HY2 := Lib.hid hY
      clear hY
      generalize hy : (Y : Int) = y at *
      have Hy := Lib.hid hy
      clear hy
      go_wp2
      · have h1 : 9223372036854775808 ≤ y := by assumption
        have e : numR s a W = (0, 18) := numR_range (s := s) hW ha (by have h2 := Hy.out; rw [← HZ.out]; omega)
        go_ret2
        exact ⟨ret_int2 (by rw [e]) (by rw [e]), rfl⟩
      · have h1 : y < 9223372036854775808 := by assumption
        have h2 := Hy.out
        have e : numR s a W = ((num s a W : Int), 0) := numR_ok (s := s) hW ha (by rw [← HZ.out]; omega)
        have e2 : wrap64 y = (num s a W : Int) := by rw [wrap64_in (by omega) (by omega), ← HZ.out, h2]
        go_ret2
        refine ⟨ret_int2 ?_ (by rw [e]), rfl⟩
        rw [e]
        first | exact e2 | (rw [← HZ.out]; exact h2.symm)

theorem rNumber_any (s : ByteArray) (a W : Int) (w : World) (hs : s.size ≤ 9223372036854775807) (_ha : a ≤ 9223372036854775807) :
    Calls Try.prog 32 #[.string s, .int .i64 a, .int .i64 W] w fun e w' => e = .returned (.tuple #[.int .i64 (numR s a W).1, .int .i64 (numR s a W).2]) ∧ w = w' := by
  by_cases hW : wid W = true
  · have hb := wid_bounds hW
    obtain ⟨V, rfl⟩ := Int.eq_ofNat_of_zero_le (show 0 ≤ W by omega)
    by_cases h0 : a < 0
    · have H := Lib.hid (show numR s a V = (0, 1) by simp [numR, h0])
      go_enter Try.func32, Try.ntmps32
      go_wp2_with (go_at_call 42; refine (wide_any _ _).mono ?_; rintro e w' ⟨rfl, rfl⟩)
      go_ret2
      exact ⟨ret_int2 (by rw [H.out]) (by rw [H.out]), rfl⟩
    · obtain ⟨b, rfl⟩ := Int.eq_ofNat_of_zero_le (show 0 ≤ a by omega)
      by_cases hl : (s.size : Int) - (b : Int) < (V : Int)
      · have H := Lib.hid (show numR s b V = (0, 2) by simp [numR, hW, hl])
        by_cases hbs : s.size < b
        · go_enter Try.func32, Try.ntmps32
          go_wp2_with (go_at_call 42; refine (wide_any _ _).mono ?_; rintro e w' ⟨rfl, rfl⟩)
          go_ret2
          exact ⟨ret_int2 (by rw [H.out]) (by rw [H.out]), rfl⟩
        · go_enter Try.func32, Try.ntmps32
          go_wp2_with (go_at_call 42; refine (wide_any _ _).mono ?_; rintro e w' ⟨rfl, rfl⟩)
          go_ret2
          exact ⟨ret_int2 (by rw [H.out]) (by rw [H.out]), rfl⟩
      · exact rNumber_in s b V w hs hW (by omega) (by omega) (by omega)
  · have hW' : wid W = false := by simpa using hW
    have H := Lib.hid (show numR s a W = (0, 1) by simp [numR, hW'])
    clear hW
    go_enter Try.func32, Try.ntmps32
    go_wp2_with (go_at_call 42; refine (wide_any _ _).mono ?_; rintro e w' ⟨rfl, rfl⟩)
    go_ret2
    exact ⟨ret_int2 (by rw [H.out]) (by rw [H.out]), rfl⟩

/-! ### Next -/
end Go.Proofs.Ytgilfjojimgpaaa.Vx
