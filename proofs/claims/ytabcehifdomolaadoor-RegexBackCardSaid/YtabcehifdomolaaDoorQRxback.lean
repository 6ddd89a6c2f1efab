/-
  collimatorlaw15.RegexBack: what is shown of a right tree is read as that tree, if it is no longer than an expression may be.
  Conditions: the table of powers of ten lies in memory. The walk of the call.
-/
import Derived.Test.YtabcehifdomolaaDoorQau
namespace Go.Proofs.YtabcehifdomolaaDoor.Rxback
open Go.RowKit Go.PlainAid Go.Proofs.YtabcehifdomolaaDoor.Bw Go.Proofs.YtabcehifdomolaaDoor.Tm Go.Proofs.YtabcehifdomolaaDoor.Rm Go.Proofs.YtabcehifdomolaaDoor.Rv Go.Proofs.YtabcehifdomolaaDoor.Ra Go.Proofs.YtabcehifdomolaaDoor.Rg Go.Proofs.YtabcehifdomolaaDoor.Rh Go.Proofs.YtabcehifdomolaaDoor.Eb Go.Proofs.YtabcehifdomolaaDoor.Ec Go.Proofs.YtabcehifdomolaaDoor.Re Go.Proofs.YtabcehifdomolaaDoor.Ekn Go.Proofs.YtabcehifdomolaaDoor.Etb Go.Proofs.YtabcehifdomolaaDoor.Esx Go.Proofs.YtabcehifdomolaaDoor.Rj

set_option maxHeartbeats 4000000 in
set_option maxRecDepth 100000 in
theorem walk (A : Option Addr) (c : Nat) (l : List Nd) (W : World) (hc : l.length ≤ c) (w0 : nds W A l) (hT : tab W) :
    Calls Tryd.prog 4 #[.slice A l.length c] W fun e w' => e = .returned (.bool true) ∧ Below W.heap.size W w' := by
  have HKN : Hid (∀ u, tab u → Calls Tryd.prog 7 #[] u fun e w' => e = .returned (.bool true) ∧ Below u.heap.size u w') := Lib.hid (fun u h => known_any (Lib.hid h))
  have HT0 := Lib.hid hT
  have HN0 := Lib.hid w0
  have HB0 : Hid (Below W.heap.size W W) := Lib.hid (Below.refl _ _)
  obtain ⟨N, hN⟩ : ∃ N, N = l.length := ⟨_, rfl⟩
  by_cases h5 : 500 < N
  · have h5' : (500 : Int) < (N : Int) := by omega
    rw [← hN]
    clear hN hc w0 h5 hT
    go_enter Tryd.func4, Tryd.ntmps4
    go_wp2_with (go_at_call 7; refine (HKN.out _ HT0.out).mono ?_; rintro e wk ⟨rfl, kk⟩; have KK := Lib.hid kk; clear kk)
    go_ret
    exact ⟨rfl, KK.out⟩
  · have h5' : ¬ (500 : Int) < (N : Int) := by omega
    have hl : l.length ≤ 1000000 := by omega
    rcases tree_or w0 with h4 | ⟨t, ht, e, h0, h400⟩
    · have HS : Hid (∀ u, nds u A l → tab u → Calls Tryd.prog 10 #[.slice A N c] u fun e w' => e = .returned (.string ⟨#[]⟩) ∧ Below u.heap.size u w') := Lib.hid (fun u h _ => by rw [hN]; exact Show_no hl (by rw [h4]; decide) (Lib.hid h))
      have HC : Hid (∀ u, nds u A l → Calls Tryd.prog 8 #[.slice A N c] u fun e w' => e = .returned (.int .i64 4) ∧ Below u.heap.size u w') := Lib.hid (fun u h => by rw [hN, ← h4]; exact Check_any hl (Lib.hid h))
      rw [← hN]
      clear hN hc w0 h5 hT hl h4
      go_enter Tryd.func4, Tryd.ntmps4
      go_wp2_with (first | (go_at_call 10; refine (HS.out _ HN0.out HT0.out).mono ?_; rintro e w1 ⟨rfl, k⟩; have HB1 := Lib.hid (grows HB0.out k); have HN1 := Lib.hid (HN0.out.below k); have HT1 := Lib.hid (HT0.out.below k); clear k) | (go_at_call 8; refine (HC.out _ HN1.out).mono ?_; rintro e w2 ⟨rfl, k⟩; have HB2 := Lib.hid (grows HB1.out k); have HN2 := Lib.hid (HN1.out.below k); have HT2 := Lib.hid (HT1.out.below k); clear k) | (go_at_call 7; refine (HKN.out _ HT2.out).mono ?_; rintro e wk ⟨rfl, kk⟩; have KK := Lib.hid kk; clear kk))
      go_ret
      exact ⟨rfl, grows HB2.out KK.out⟩
    · subst e
      have HC : Hid (∀ u, nds u A (enc t) → Calls Tryd.prog 8 #[.slice A N c] u fun e w' => e = .returned (.int .i64 0) ∧ Below u.heap.size u w') := Lib.hid (fun u h => by rw [hN, ← h0]; exact Check_any hl (Lib.hid h))
      obtain ⟨S, hS⟩ : ∃ S, S = str (Rt.tx t) := ⟨_, rfl⟩
      have HS : Hid (∀ u, nds u A (enc t) → tab u → Calls Tryd.prog 10 #[.slice A N c] u fun e w' => e = .returned (.string S) ∧ Below u.heap.size u w') := Lib.hid (fun u h k => by rw [hN, hS]; exact Show_yes ht hc h0 h400 (Lib.hid h) (Lib.hid k))
      have hz : S.size ≤ 1000000 := by rw [hS, str_size]; have := tx_len t; omega
      have hz0 : (0 : Int) < (S.size : Int) := by have h1 := tx_pos ht; have h2 := str_size (Rt.tx t); rw [← hS] at h2; omega
      have HSM : Hid (∀ u A1 c1 A2 c2, nds u A1 (enc t) → nds u A2 (enc t) → Calls Tryd.prog 15 #[.slice A1 N c1, .slice A2 N c2] u fun e w' => e = .returned (.bool true) ∧ Below u.heap.size u w') := Lib.hid (fun u A1 c1 A2 c2 h1 h2 => by rw [hN]; refine (rSame_same h1 h2 (by omega)).mono ?_; rintro e w' ⟨he, m, rfl⟩; exact ⟨he, below_draws _ _⟩)
      by_cases h512 : 512 < S.size
      · have h512' : (512 : Int) < (S.size : Int) := by omega
        have HP : Hid (∀ u, Calls Tryd.prog 14 #[.string S] u fun e w' => ∃ v c q, e = .returned (.tuple #[v, .int .i64 c, .int .i64 q]) ∧ Below u.heap.size u w') := Lib.hid (fun u => reads_any S (by omega) u)
        rw [← hN]
        clear hN hc w0 h5 hT hl hS hz h512 ht h0 h400
        go_enter Tryd.func4, Tryd.ntmps4
        go_wp2_with (first | (go_at_call 10; refine (HS.out _ HN0.out HT0.out).mono ?_; rintro e w1 ⟨rfl, k⟩; have HB1 := Lib.hid (grows HB0.out k); have HN1 := Lib.hid (HN0.out.below k); have HT1 := Lib.hid (HT0.out.below k); clear k) | (go_at_call 8; refine (HC.out _ HN1.out).mono ?_; rintro e w2 ⟨rfl, k⟩; have HB2 := Lib.hid (grows HB1.out k); have HN2 := Lib.hid (HN1.out.below k); have HT2 := Lib.hid (HT1.out.below k); clear k) | (go_at_call 14; refine (HP.out _).mono ?_; rintro e w3 ⟨v3, c3, q3, rfl, k⟩; have HB3 := Lib.hid (grows HB2.out k); have HT3 := Lib.hid (HT2.out.below k); clear k) | (go_at_call 7; refine (HKN.out _ HT3.out).mono ?_; rintro e wk ⟨rfl, kk⟩; have KK := Lib.hid kk; clear kk))
        go_ret
        exact ⟨rfl, grows HB3.out KK.out⟩
      · have h512' : ¬ (512 : Int) < (S.size : Int) := by omega
        have HP : Hid (∀ u, Calls Tryd.prog 14 #[.string S] u fun e w' => ∃ A cap, e = .returned (.tuple #[.slice A N cap, .int .i64 0, .int .i64 0]) ∧ (N ≤ cap ∧ nds w' A (enc t)) ∧ Below u.heap.size u w') := Lib.hid (fun u => by rw [hN, hS]; exact again ht h400 (by rw [← hS]; omega) u)
        rw [← hN]
        clear hN hc w0 h5 hT hl hS hz h512 ht h0 h400
        go_enter Tryd.func4, Tryd.ntmps4
        go_wp2_with (first | (go_at_call 10; refine (HS.out _ HN0.out HT0.out).mono ?_; rintro e w1 ⟨rfl, k⟩; have HB1 := Lib.hid (grows HB0.out k); have HN1 := Lib.hid (HN0.out.below k); have HT1 := Lib.hid (HT0.out.below k); clear k) | (go_at_call 8; refine (HC.out _ HN1.out).mono ?_; rintro e w2 ⟨rfl, k⟩; have HB2 := Lib.hid (grows HB1.out k); have HN2 := Lib.hid (HN1.out.below k); have HT2 := Lib.hid (HT1.out.below k); clear k) | (go_at_call 14; refine (HP.out _).mono ?_; rintro e w3 ⟨A3, c3, rfl, hm, k⟩; have HB3 := Lib.hid (grows HB2.out k); have HT3 := Lib.hid (HT2.out.below k); have HN3 := Lib.hid (HN2.out.below k); have HM3 := Lib.hid hm.2; clear k hm) | (go_at_call 15; refine (HSM.out _ _ _ _ _ HM3.out HN3.out).mono ?_; rintro e w4 ⟨rfl, k⟩; have HB4 := Lib.hid (grows HB3.out k); have HT4 := Lib.hid (HT3.out.below k); clear k) | (go_at_call 7; refine (HKN.out _ HT4.out).mono ?_; rintro e wk ⟨rfl, kk⟩; have KK := Lib.hid kk; clear kk))
        go_ret
        exact ⟨rfl, grows HB4.out KK.out⟩
end Go.Proofs.YtabcehifdomolaaDoor.Rxback
