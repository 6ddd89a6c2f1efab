/-
  gzhead.Right, called with any head: whether the head is right.
  Conditions: as each theorem says.
-/
import Derived.Test.YtgilfjojimgpaaaQb
namespace Go.Proofs.Ytgilfjojimgpaaa.Qc
open Go.RowKit Go.Proofs.Ytgilfjojimgpaaa.Vm Go.Proofs.Ytgilfjojimgpaaa.Vo Go.Proofs.Ytgilfjojimgpaaa.Vf Go.Proofs.Ytgilfjojimgpaaa.Bw Go.Proofs.Ytgilfjojimgpaaa.Qm Go.Proofs.Ytgilfjojimgpaaa.Qa Go.Proofs.Ytgilfjojimgpaaa.Qb

theorem andn28 (f : Int) (h0 : -9223372036854775808 ≤ f) (h1 : f ≤ 9223372036854775807) : bits .andNot .i64 f 28 = 0 ↔ 0 ≤ f ∧ f ≤ 28 ∧ f % 4 = 0 := by
  constructor
  · intro h
    unfold bits at h
    have hX : (BitVec.ofInt 64 f &&& ~~~ BitVec.ofInt 64 28).toNat = (f % 18446744073709551616).toNat &&& 18446744073709551587 := by
      rw [BitVec.toNat_and, BitVec.toNat_ofInt, show (~~~ BitVec.ofInt 64 28).toNat = 18446744073709551587 from by decide, show ((2 ^ 64 : Nat) : Int) = 18446744073709551616 from by decide]
    have h2 : IntKind.i64.wrap (((BitVec.ofInt 64 f &&& ~~~ BitVec.ofInt 64 28).toNat : Nat) : Int) = 0 := h
    have h' := h2
    rw [IntWalk.i64_left] at h'
    rw [hX] at h'
    obtain ⟨X, hXX⟩ : ∃ X, X = (f % 18446744073709551616).toNat := ⟨_, rfl⟩
    rw [← hXX] at h'
    have hlt : X < 18446744073709551616 := by omega
    have hM : X &&& 18446744073709551587 < 18446744073709551616 := Nat.lt_of_le_of_lt Nat.and_le_left hlt
    have hz : X &&& 18446744073709551587 = 0 := by
      generalize X &&& 18446744073709551587 = Y at *
      unfold wrap64 at h'
      omega
    have e1 : X % 4 = 0 := by
      have a := Nat.and_two_pow_sub_one_eq_mod X 2
      have b : X &&& 3 = (X &&& 18446744073709551587) &&& 3 := by rw [Nat.and_assoc, show 18446744073709551587 &&& 3 = 3 from by decide]
      rw [hz, Nat.zero_and] at b
      have a' : X &&& 3 = X % 4 := a
      omega
    have e2 : X / 32 = 0 := by
      have a : (X &&& 18446744073709551587) >>> 5 = X >>> 5 &&& 18446744073709551587 >>> 5 := Nat.shiftRight_and_distrib
      rw [hz, Nat.zero_shiftRight, Nat.shiftRight_eq_div_pow, show 18446744073709551587 >>> 5 = 2 ^ 59 - 1 from by decide, Nat.and_two_pow_sub_one_eq_mod] at a
      have a' : X / 32 % 576460752303423488 = 0 := a.symm
      omega
    omega
  · rintro ⟨a, b, c⟩
    have : f = 0 ∨ f = 4 ∨ f = 8 ∨ f = 12 ∨ f = 16 ∨ f = 20 ∨ f = 24 ∨ f = 28 := by omega
    rcases this with rfl | rfl | rfl | rfl | rfl | rfl | rfl | rfl <;> decide
/-- What flags have. -/
theorem and_flag {f : Int} (h : 0 ≤ f ∧ f ≤ 28 ∧ f % 4 = 0) : (bits .and .i64 f 4 ≠ 0 ↔ f / 4 % 2 = 1) ∧ (bits .and .i64 f 8 ≠ 0 ↔ f / 8 % 2 = 1) ∧ (bits .and .i64 f 16 ≠ 0 ↔ f / 16 % 2 = 1) := by
  have : f = 0 ∨ f = 4 ∨ f = 8 ∨ f = 12 ∨ f = 16 ∨ f = 20 ∨ f = 24 ∨ f = 28 := by omega
  rcases this with rfl | rfl | rfl | rfl | rfl | rfl | rfl | rfl <;> decide

theorem right_iff (t : Int) (e n c : ByteArray) (v o : Int) (x m : Bool) {f zf : Int} (h0 : -9223372036854775808 ≤ f) (h1 : f ≤ 9223372036854775807) (hf : bits .andNot .i64 f 28 = zf) :
    rightQ (hq t e n c v o x m f) ↔ (up t 4294967295 = true ∧ up v 255 = true ∧ up o 255 = true ∧ zf = 0 ∧ hasE n = false ∧ hasE c = false ∧ (e.size : Int) ≤ 65535 ∧ may e f 4 = true ∧ may n f 8 = true ∧ may c f 16 = true) := by
  have ha := andn28 f h0 h1
  have hs : e.data.toList.length = e.size := by rw [Array.length_toList]; rfl
  unfold rightQ hq up hasE may
  simp only [decide_eq_true_eq, decide_eq_false_iff_not, hs]
  rw [← hf, ha]
  constructor
  · rintro ⟨a, b, c', d, ⟨e1, e2⟩, ⟨n1, n2⟩, c1, c2⟩
    obtain ⟨k4, k8, k16⟩ := and_flag d
    refine ⟨a, b, c', d, n1, c1, by omega, ?_, ?_, ?_⟩
    · by_cases hk : f / 4 % 2 = 1
      · exact .inr (k4.2 hk)
      · exact .inl (e2 hk)
    · by_cases hk : f / 8 % 2 = 1
      · exact .inr (k8.2 hk)
      · exact .inl (n2 hk)
    · by_cases hk : f / 16 % 2 = 1
      · exact .inr (k16.2 hk)
      · exact .inl (c2 hk)
  · rintro ⟨a, b, c', d, n1, c1, e1, m4, m8, m16⟩
    obtain ⟨k4, k8, k16⟩ := and_flag d
    exact ⟨a, b, c', d, ⟨by omega, fun hk => m4.resolve_right (fun hz => hk (k4.1 hz))⟩, ⟨n1, fun hk => m8.resolve_right (fun hz => hk (k8.1 hz))⟩, c1, fun hk => m16.resolve_right (fun hz => hk (k16.1 hz))⟩

set_option maxRecDepth 100000 in
theorem Right_any (t : Int) (e n c : ByteArray) (v o : Int) (x m : Bool) (f : Int) (w : World) (h0 : -9223372036854775808 ≤ f) (h1 : f ≤ 9223372036854775807) :
    Calls Try.prog 11 #[.agg (cs9 t e n c v o x m f)] w fun e' w' => (∃ b, e' = .returned (.bool b) ∧ (b = true ↔ rightQ (hq t e n c v o x m f))) ∧ Below w.heap.size w w' := by
  obtain ⟨zf, hf⟩ : ∃ z, bits .andNot .i64 f 28 = z := ⟨_, rfl⟩
  have HR := Lib.hid (right_iff t e n c v o x m h0 h1 hf)
  clear h0 h1
  cases hT : up t 4294967295
  · go_enter Try.func11, Try.ntmps11
    go_wp2_with (first | (go_at_call 22; refine (isUpTo_up _ _ _).mono ?_; rintro e w' ⟨rfl, rfl⟩) | (go_at_call 23; refine (hasEnd_has _ _).mono ?_; rintro e w' ⟨rfl, rfl⟩) | (go_at_call 24; refine (mayBe_may _ _ _ _).mono ?_; rintro e w' ⟨rfl, rfl⟩))
    go_ret
    exact ⟨⟨_, rfl, by rw [HR.out]; simp [hT]⟩, (Below.refl _ w).alloc (Nat.le_refl _) _⟩
  · skip
    cases hV : up v 255
    · go_enter Try.func11, Try.ntmps11
      go_wp2_with (first | (go_at_call 22; refine (isUpTo_up _ _ _).mono ?_; rintro e w' ⟨rfl, rfl⟩) | (go_at_call 23; refine (hasEnd_has _ _).mono ?_; rintro e w' ⟨rfl, rfl⟩) | (go_at_call 24; refine (mayBe_may _ _ _ _).mono ?_; rintro e w' ⟨rfl, rfl⟩))
      go_ret
      exact ⟨⟨_, rfl, by rw [HR.out]; simp [hV]⟩, (Below.refl _ w).alloc (Nat.le_refl _) _⟩
    · skip
      cases hO : up o 255
      · go_enter Try.func11, Try.ntmps11
        go_wp2_with (first | (go_at_call 22; refine (isUpTo_up _ _ _).mono ?_; rintro e w' ⟨rfl, rfl⟩) | (go_at_call 23; refine (hasEnd_has _ _).mono ?_; rintro e w' ⟨rfl, rfl⟩) | (go_at_call 24; refine (mayBe_may _ _ _ _).mono ?_; rintro e w' ⟨rfl, rfl⟩))
        go_ret
        exact ⟨⟨_, rfl, by rw [HR.out]; simp [hO]⟩, (Below.refl _ w).alloc (Nat.le_refl _) _⟩
      · skip
        by_cases hZ : zf = 0
        · have hz : (zf != 0) = false := by simpa using hZ
          cases hN : hasE n
          · skip
            cases hC : hasE c
            · skip
              by_cases hE : (e.size : Int) ≤ 65535
              · have HE := Lib.hid hE; have hE' : ¬ 65535 < (e.size : Int) := by omega
                cases h4 : may e f 4
                · go_enter Try.func11, Try.ntmps11
                  go_wp2_with (first | (go_at_call 22; refine (isUpTo_up _ _ _).mono ?_; rintro e w' ⟨rfl, rfl⟩) | (go_at_call 23; refine (hasEnd_has _ _).mono ?_; rintro e w' ⟨rfl, rfl⟩) | (go_at_call 24; refine (mayBe_may _ _ _ _).mono ?_; rintro e w' ⟨rfl, rfl⟩))
                  go_ret
                  exact ⟨⟨_, rfl, by rw [HR.out]; simp [h4]⟩, (Below.refl _ w).alloc (Nat.le_refl _) _⟩
                · skip
                  cases h8 : may n f 8
                  · go_enter Try.func11, Try.ntmps11
                    go_wp2_with (first | (go_at_call 22; refine (isUpTo_up _ _ _).mono ?_; rintro e w' ⟨rfl, rfl⟩) | (go_at_call 23; refine (hasEnd_has _ _).mono ?_; rintro e w' ⟨rfl, rfl⟩) | (go_at_call 24; refine (mayBe_may _ _ _ _).mono ?_; rintro e w' ⟨rfl, rfl⟩))
                    go_ret
                    exact ⟨⟨_, rfl, by rw [HR.out]; simp [h8]⟩, (Below.refl _ w).alloc (Nat.le_refl _) _⟩
                  · skip
                    cases h16 : may c f 16
                    · go_enter Try.func11, Try.ntmps11
                      go_wp2_with (first | (go_at_call 22; refine (isUpTo_up _ _ _).mono ?_; rintro e w' ⟨rfl, rfl⟩) | (go_at_call 23; refine (hasEnd_has _ _).mono ?_; rintro e w' ⟨rfl, rfl⟩) | (go_at_call 24; refine (mayBe_may _ _ _ _).mono ?_; rintro e w' ⟨rfl, rfl⟩))
                      go_ret
                      exact ⟨⟨_, rfl, by rw [HR.out]; simp [h16]⟩, (Below.refl _ w).alloc (Nat.le_refl _) _⟩
                    · skip
                      go_enter Try.func11, Try.ntmps11
                      go_wp2_with (first | (go_at_call 22; refine (isUpTo_up _ _ _).mono ?_; rintro e w' ⟨rfl, rfl⟩) | (go_at_call 23; refine (hasEnd_has _ _).mono ?_; rintro e w' ⟨rfl, rfl⟩) | (go_at_call 24; refine (mayBe_may _ _ _ _).mono ?_; rintro e w' ⟨rfl, rfl⟩))
                      go_ret
                      exact ⟨⟨_, rfl, by rw [HR.out]; simp [hT, hV, hO, hZ, hN, hC, HE.out, h4, h8, h16]⟩, (Below.refl _ w).alloc (Nat.le_refl _) _⟩
              · have HE := Lib.hid hE; have hE' : 65535 < (e.size : Int) := by omega
                go_enter Try.func11, Try.ntmps11
                go_wp2_with (first | (go_at_call 22; refine (isUpTo_up _ _ _).mono ?_; rintro e w' ⟨rfl, rfl⟩) | (go_at_call 23; refine (hasEnd_has _ _).mono ?_; rintro e w' ⟨rfl, rfl⟩) | (go_at_call 24; refine (mayBe_may _ _ _ _).mono ?_; rintro e w' ⟨rfl, rfl⟩))
                go_ret
                exact ⟨⟨_, rfl, by rw [HR.out]; simp [Int.not_le.2 hE']⟩, (Below.refl _ w).alloc (Nat.le_refl _) _⟩
            · go_enter Try.func11, Try.ntmps11
              go_wp2_with (first | (go_at_call 22; refine (isUpTo_up _ _ _).mono ?_; rintro e w' ⟨rfl, rfl⟩) | (go_at_call 23; refine (hasEnd_has _ _).mono ?_; rintro e w' ⟨rfl, rfl⟩) | (go_at_call 24; refine (mayBe_may _ _ _ _).mono ?_; rintro e w' ⟨rfl, rfl⟩))
              go_ret
              exact ⟨⟨_, rfl, by rw [HR.out]; simp [hC]⟩, (Below.refl _ w).alloc (Nat.le_refl _) _⟩
          · go_enter Try.func11, Try.ntmps11
            go_wp2_with (first | (go_at_call 22; refine (isUpTo_up _ _ _).mono ?_; rintro e w' ⟨rfl, rfl⟩) | (go_at_call 23; refine (hasEnd_has _ _).mono ?_; rintro e w' ⟨rfl, rfl⟩) | (go_at_call 24; refine (mayBe_may _ _ _ _).mono ?_; rintro e w' ⟨rfl, rfl⟩))
            go_ret
            exact ⟨⟨_, rfl, by rw [HR.out]; simp [hN]⟩, (Below.refl _ w).alloc (Nat.le_refl _) _⟩
        · have hz : (zf != 0) = true := by simpa using hZ
          go_enter Try.func11, Try.ntmps11
          go_wp2_with (first | (go_at_call 22; refine (isUpTo_up _ _ _).mono ?_; rintro e w' ⟨rfl, rfl⟩) | (go_at_call 23; refine (hasEnd_has _ _).mono ?_; rintro e w' ⟨rfl, rfl⟩) | (go_at_call 24; refine (mayBe_may _ _ _ _).mono ?_; rintro e w' ⟨rfl, rfl⟩))
          go_ret
          exact ⟨⟨_, rfl, by rw [HR.out]; simp [hZ]⟩, (Below.refl _ w).alloc (Nat.le_refl _) _⟩
end Go.Proofs.Ytgilfjojimgpaaa.Qc
