/-
  invalid, and the reference's wrong: what is the matter with lengths.
  Conditions: as each theorem says.
-/
import Derived.Test.YtnkninjdpgpkmaaGreatDoorRows
import Derived.WalkKit
import Derived.WalkSpells
import Derived.WalkLawsBesides
import Derived.Test.YtnkninjdpgpkmaaGreatDoorBab
import Derived.Test.YtnkninjdpgpkmaaGreatDoorBad
namespace Go.Proofs.YtnkninjdpgpkmaaGreatDoor.Ni
open Go.RowKit Go.Proofs.YtnkninjdpgpkmaaGreatDoor.Na Go.Proofs.YtnkninjdpgpkmaaGreatDoor.Nm Go.Proofs.YtnkninjdpgpkmaaGreatDoor.Bw

/-- What is wrong of n lengths. -/
def bad (n : Nat) (f : Nat → Int) : Int := if 320 < n then 3 else if ∀ i, i < n → 0 ≤ f i ∧ f i ≤ 15 then 0 else 1
theorem bad_big {n : Nat} {f : Nat → Int} (h : 320 < n) : bad n f = 3 := if_pos h
theorem bad_arg {n : Nat} {f : Nat → Int} (h : n ≤ 320) {i : Nat} (hi : i < n) (hf : f i < 0 ∨ 15 < f i) : bad n f = 1 := by
  unfold bad; rw [if_neg (by omega), if_neg]; intro hh; have := hh i hi; omega
theorem bad_ok {n : Nat} {f : Nat → Int} (h : n ≤ 320) (hf : ∀ i, i < n → 0 ≤ f i ∧ f i ≤ 15) : bad n f = 0 := by
  unfold bad; rw [if_neg (by omega), if_pos hf]
theorem bad_cases (n : Nat) (f : Nat → Int) : (bad n f = 3 ∧ 320 < n) ∨ (bad n f = 1 ∧ n ≤ 320) ∨ (bad n f = 0 ∧ n ≤ 320 ∧ ∀ i, i < n → 0 ≤ f i ∧ f i ≤ 15) := by
  unfold bad
  by_cases h : 320 < n
  · exact .inl ⟨if_pos h, h⟩
  · rw [if_neg h]
    by_cases h2 : ∀ i, i < n → 0 ≤ f i ∧ f i ≤ 15
    · exact .inr (.inr ⟨if_pos h2, by omega, h2⟩)
    · exact .inr (.inl ⟨if_neg h2, by omega⟩)

set_option maxRecDepth 100000 in
theorem invalid_any {A : Option Addr} {n cap : Nat} {f : Nat → Int} (hn : n ≤ 9223372036854775807) {w : World} (HC : Hid (row w A n f)) :
    Calls Tryz.prog 182 #[.slice A n cap] w fun e w' => e = .returned (.int .i64 (bad n f)) ∧ w = w' := by
  by_cases hb : 320 < n
  · go_enter Tryz.func182, Tryz.ntmps182
    go_wp2
    go_ret
    exact ⟨ret_i64 (bad_big hb).symm, rfl⟩
  · go_enter Tryz.func182, Tryz.ntmps182
    go_wp2
    go_loopw [9] (fun i wr => ∃ k : Nat, i = .int .i64 k ∧ k ≤ n ∧ Hid (∀ j, j < k → 0 ≤ f j ∧ f j ≤ 15) ∧ wr = w) (fun i _ => n - (intOf i).toNat)
    case atStart => exact ⟨0, rfl, by omega, Lib.hid (fun j hj => absurd hj (by omega)), rfl⟩
    case round =>
      obtain ⟨k, rfl, hk, HA, rfl⟩ := hrel
      by_cases hkn : k < n
      · obtain ⟨b, off, rfl, hbl, hc⟩ := HC.out k hkn
        obtain ⟨x, hx⟩ : ∃ x, x = f k := ⟨_, rfl⟩
        rw [← hx] at hc
        have HX := Lib.hid hx
        clear hx
        rcases (show x < 0 ∨ 15 < x ∨ (0 ≤ x ∧ x ≤ 15) by omega) with h | h | h
        · go_wp2
          go_ret
          exact ⟨ret_i64 (bad_arg (by omega) hkn (.inl (by rw [← HX.out]; exact h))).symm, rfl⟩
        · have h0 : ¬ x < 0 := by omega
          go_wp2
          go_ret
          exact ⟨ret_i64 (bad_arg (by omega) hkn (.inr (by rw [← HX.out]; exact h))).symm, rfl⟩
        · have h0 : ¬ x < 0 := by omega
          have h1 : ¬ 15 < x := by omega
          go_wp2
          go_roundw
          case rel => exact ⟨k + 1, by go_num, by omega, Lib.hid (fun j hj => by
            rcases (show j < k ∨ j = k by omega) with hj | rfl
            · exact HA.out j hj
            · rw [← HX.out]; exact h), trivial⟩
          case measure => simp [intOf]; omega
      · have hkn' := Lib.hid (show k = n by omega)
        go_wp2
        go_ret
        exact ⟨ret_i64 (bad_ok (by omega) (fun i hi => HA.out i (by have := hkn'.out; omega))).symm, rfl⟩

set_option maxRecDepth 100000 in
theorem wrong_any {A : Option Addr} {n cap : Nat} {f : Nat → Int} (hn : n ≤ 9223372036854775807) {w : World} (HC : Hid (row w A n f)) :
    Calls Tryz.prog 123 #[.slice A n cap] w fun e w' => e = .returned (.int .i64 (bad n f)) ∧ w = w' := by
  by_cases hb : 320 < n
  · go_enter Tryz.func123, Tryz.ntmps123
    go_wp2
    go_ret
    exact ⟨ret_i64 (bad_big hb).symm, rfl⟩
  · go_enter Tryz.func123, Tryz.ntmps123
    go_wp2
    go_loopw [3] (fun i wr => ∃ k : Nat, i = .int .i64 k ∧ k ≤ n ∧ Hid (∀ j, j < k → 0 ≤ f j ∧ f j ≤ 15) ∧ wr = w) (fun i _ => n - (intOf i).toNat)
    case atStart => exact ⟨0, rfl, by omega, Lib.hid (fun j hj => absurd hj (by omega)), rfl⟩
    case round =>
      obtain ⟨k, rfl, hk, HA, rfl⟩ := hrel
      by_cases hkn : k < n
      · obtain ⟨b, off, rfl, hbl, hc⟩ := HC.out k hkn
        obtain ⟨x, hx⟩ : ∃ x, x = f k := ⟨_, rfl⟩
        rw [← hx] at hc
        have HX := Lib.hid hx
        clear hx
        rcases (show x < 0 ∨ 15 < x ∨ (0 ≤ x ∧ x ≤ 15) by omega) with h | h | h
        · go_wp2
          go_ret
          exact ⟨ret_i64 (bad_arg (by omega) hkn (.inl (by rw [← HX.out]; exact h))).symm, rfl⟩
        · have h0 : ¬ x < 0 := by omega
          go_wp2
          go_ret
          exact ⟨ret_i64 (bad_arg (by omega) hkn (.inr (by rw [← HX.out]; exact h))).symm, rfl⟩
        · have h0 : ¬ x < 0 := by omega
          have h1 : ¬ 15 < x := by omega
          go_wp2
          go_roundw
          case rel => exact ⟨k + 1, by go_num, by omega, Lib.hid (fun j hj => by
            rcases (show j < k ∨ j = k by omega) with hj | rfl
            · exact HA.out j hj
            · rw [← HX.out]; exact h), trivial⟩
          case measure => simp [intOf]; omega
      · have hkn' := Lib.hid (show k = n by omega)
        go_wp2
        go_ret
        exact ⟨ret_i64 (bad_ok (by omega) (fun i hi => HA.out i (by have := hkn'.out; omega))).symm, rfl⟩
end Go.Proofs.YtnkninjdpgpkmaaGreatDoor.Ni
