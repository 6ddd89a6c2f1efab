/-
  collimatorlaw04.BitrowTurns returns true for every two integers: Turn is the document's Turn, and turned twice the bits are as they were.
  Conditions: none.
-/
import Derived.Test.YtceocbfeapdjeaaBk
import Derived.Test.YtceocbfeapdjeaaLw
namespace Go.Proofs.Ytceocbfeapdjeaa.bitrowTurns
open Go.ChangeShapes Go.WideShapes Go.ChangeAt Go.RowKit
open Go.ChangeMaps (open_string shut_string)
open Go.Proofs.Ytceocbfeapdjeaa.Lw Go.Proofs.Ytceocbfeapdjeaa.Vm Go.Proofs.Ytceocbfeapdjeaa.Vo Go.Proofs.Ytceocbfeapdjeaa.Bm Go.Proofs.Ytceocbfeapdjeaa.Bo Go.Proofs.Ytceocbfeapdjeaa.Bt Go.Proofs.Ytceocbfeapdjeaa.Bw Go.Proofs.Ytceocbfeapdjeaa.Br Go.Proofs.Ytceocbfeapdjeaa.Bp Go.Proofs.Ytceocbfeapdjeaa.Bs Go.Proofs.Ytceocbfeapdjeaa.Bv Go.Proofs.Ytceocbfeapdjeaa.Bx Go.Proofs.Ytceocbfeapdjeaa.Bk


theorem own : ownKnob Try.prog.godebug = none := by kernel_rfl
theorem laidOut : laidOutB Try.prog = true := by kernel_rfl

theorem again (v : Int) (m : Nat) (h : m ≤ 32) : turnR ((turnN (v % 18446744073709551616).toNat m : Nat) : Int) m = (((v % 18446744073709551616).toNat % 2 ^ m : Nat) : Int) := by
  have h1 : 2 ^ m ≤ 2 ^ 32 := Nat.pow_le_pow_right (by omega) h
  have h2 := turnN_lt (v % 18446744073709551616).toNat m
  rw [← turnN_turnN]
  unfold turnR
  rw [if_pos (by simp [cnt]; omega), show ((((turnN (v % 18446744073709551616).toNat m : Nat) : Int)) % 18446744073709551616).toNat = turnN (v % 18446744073709551616).toNat m by omega]
  rfl

set_option maxRecDepth 100000 in
theorem walk (v n : Int) (_ : (Lit.int .i64 v).wf = true) (_ : (Lit.int .i64 n).wf = true) (w : World) :
    Calls Try.prog 5 #[.int .i64 v, .int .i64 n] w fun e w' => e = .returned (.bool true) ∧ Below w.heap.size w w' := by
  by_cases hc : cnt n = true
  · have hn : 0 ≤ n ∧ n ≤ 32 := by simpa [cnt] using hc
    obtain ⟨m, rfl⟩ := Int.eq_ofNat_of_zero_le hn.1
    have hm : m ≤ 32 := by omega
    have HT : Hid (turnR v m = (turnN (v % 18446744073709551616).toNat m : Nat)) := Lib.hid (by unfold turnR; rw [if_pos hc]; rfl)
    have HA := Lib.hid (again v m hm)
    have hl := low_bits v m hm
    have h1 : 2 ^ m ≤ 2 ^ 32 := Nat.pow_le_pow_right (by omega) hm
    have h2 := turnN_lt (v % 18446744073709551616).toNat m
    generalize turnN (v % 18446744073709551616).toNat m = t at *
    generalize (v % 18446744073709551616).toNat % 2 ^ m = r at *
    have ht : t < 4294967296 := Nat.lt_of_lt_of_le h2 h1
    clear hc hn h1 h2
    go_enter Try.func5, Try.ntmps5
    go_wp2_with fail
    refine (Turn_any _ _ _).mono ?_
    rintro e w' ⟨rfl, rfl⟩
    rw [HT.out]
    go_wp2_with fail
    refine (rTurn_any _ _ _).mono ?_
    rintro e w' ⟨rfl, rfl⟩
    rw [HT.out]
    go_wp2_with fail
    refine (Turn_any _ _ _).mono ?_
    rintro e w' ⟨rfl, rfl⟩
    rw [HA.out]
    go_wp2_with (go_at_call 9; refine (known_any _).mono ?_; rintro e w' ⟨rfl, hb⟩)
    go_ret
    exact ⟨rfl, hb⟩
  · have HT : Hid (turnR v n = 0) := Lib.hid (by unfold turnR; rw [if_neg hc])
    have hn : n < 0 ∨ 32 < n := by simp [cnt] at hc; omega
    clear hc
    rcases hn with hn | hn
    all_goals
      go_enter Try.func5, Try.ntmps5
      go_wp2_with fail
      refine (Turn_any _ _ _).mono ?_
      rintro e w' ⟨rfl, rfl⟩
      rw [HT.out]
      go_wp2_with fail
      refine (rTurn_any _ _ _).mono ?_
      rintro e w' ⟨rfl, rfl⟩
      rw [HT.out]
      go_wp2_with (go_at_call 9; refine (known_any _).mono ?_; rintro e w' ⟨rfl, hb⟩)
      go_ret
      exact ⟨rfl, hb⟩

set_option maxRecDepth 100000 in
theorem lifted (os : Os) (started : os.Started) (H : Type) (enc : TypeId × Value → H) :
    ReturnsInHanded {} Try.checked os 5 .any (Rows.bitrowTurnsSpec.pre6 enc Try.prog Try.f5 Rows.bitrowTurnsRow.domain false) (Rows.bitrowTurnsSpec.post enc Try.prog Try.f5 false true false false) := by
  refine returnsInHanded_of_change (C := Try.checked) own started (by kernel_rfl) Try.func5
    (ChangeSpec.witness6 (enc := enc) (C := Try.checked) false ⟨#[], #[.int .i64 0, .int .i64 0], []⟩ 8 (by kernel_rfl) (by kernel_rfl) (by kernel_rfl) (by kernel_rfl)) ?_
  intro W base args ds gs before hval0 hW _ _
  have hval : ∀ (j : Nat) t v, Try.f5.params[j]? = some t → args[j]? = some v → Value.okWide Try.prog W .any base t v := hval0
  have hW' := hW
  obtain ⟨p, q, hA0, hV, rfl, hfz, hnd⟩ := hW
  have hA : DataW.TrodAll enc Try.prog W 0 (fun _ => true) true Try.f5.params.toList args.toList ds p := hA0
  rw [Try.params5] at hA hval
  obtain ⟨v0, vs0, d0, ds0, p0, q0, hargs, rfl, rfl, h0, r0⟩ := trodAll_cons hA
  obtain ⟨v1, vs1, d1, ds1, p1, q1, rfl, rfl, rfl, h1, r1⟩ := trodAll_cons r0
  obtain ⟨rfl, rfl, rfl⟩ := trodAll_nil r1
  obtain rfl : args = #[v0, v1] := by cases args; simp_all
  obtain ⟨rfl, rfl⟩ := trodVars_none hV
  obtain ⟨a0, rfl, rfl, rfl, w0⟩ := open_int Try.underlying3 (hval 0 3 v0 rfl rfl) h0
  obtain ⟨a1, rfl, rfl, rfl, w1⟩ := open_int Try.underlying3 (hval 1 3 v1 rfl rfl) h1
  refine (walk a0 a1 w0 w1 W).mono fun e W' ⟨he, hb⟩ => ?_
  subst he
  exact ⟨_, rfl, law_post (P := Try.prog) (f := Try.f5) laidOut (by kernel_rfl) (by kernel_rfl) Try.underlying4 rfl hW' rfl hb⟩

theorem proved : Rows.BitrowTurnsSaid :=
  OpenClaim.holds_of_wide 5 Try.f5 rfl rfl rfl rfl rfl rfl rfl ⟨rfl, rfl, rfl, rfl, rfl⟩ rfl rfl rfl rfl rfl (by kernel_rfl) Try.func5 (by kernel_rfl)
    (of_decide_eq_true (by kernel_rfl)) (by unfold Func.isWrapper; first | (rw [if_pos (by decide +kernel)]; kernel_rfl) | (rw [if_neg (by decide +kernel)]; exact ⟨rfl, rfl⟩))
    (fun os started H enc _ => lifted os started H enc)
#print axioms proved
end Go.Proofs.Ytceocbfeapdjeaa.bitrowTurns
