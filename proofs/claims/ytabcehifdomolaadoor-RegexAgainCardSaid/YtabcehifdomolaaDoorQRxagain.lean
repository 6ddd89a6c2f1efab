/-
  collimatorlaw15.RegexAgain: what is read of any text is right, and is shown, and read again, as it was; or there is an error, with a place within the text.
  Conditions: the table of powers of ten lies in memory. The walk of the call.
-/
import Derived.Test.YtabcehifdomolaaDoorQau
namespace Go.Proofs.YtabcehifdomolaaDoor.Rxagain
open Go.RowKit Go.PlainAid Go.Proofs.YtabcehifdomolaaDoor.Bw Go.Proofs.YtabcehifdomolaaDoor.Tm Go.Proofs.YtabcehifdomolaaDoor.Rm Go.Proofs.YtabcehifdomolaaDoor.Rv Go.Proofs.YtabcehifdomolaaDoor.Ra Go.Proofs.YtabcehifdomolaaDoor.Rg Go.Proofs.YtabcehifdomolaaDoor.Rh Go.Proofs.YtabcehifdomolaaDoor.Eb Go.Proofs.YtabcehifdomolaaDoor.Ec Go.Proofs.YtabcehifdomolaaDoor.Re Go.Proofs.YtabcehifdomolaaDoor.Ekn Go.Proofs.YtabcehifdomolaaDoor.Etb Go.Proofs.YtabcehifdomolaaDoor.Esx Go.Proofs.YtabcehifdomolaaDoor.Rj

set_option maxHeartbeats 4000000 in
set_option maxRecDepth 100000 in
theorem walk (s : ByteArray) (W : World) (w0 : s.size ≤ 9223372036854775807) (hT : tab W) :
    Calls Tryd.prog 5 #[.string s] W fun e w' => e = .returned (.bool true) ∧ Below W.heap.size W w' := by
  have HKN : Hid (∀ u, tab u → Calls Tryd.prog 7 #[] u fun e w' => e = .returned (.bool true) ∧ Below u.heap.size u w') := Lib.hid (fun u h => known_any (Lib.hid h))
  have HT0 := Lib.hid hT
  by_cases h6 : 600 < s.size
  · have h6' : (600 : Int) < (s.size : Int) := by omega
    clear hT w0 h6
    go_enter Tryd.func5, Tryd.ntmps5
    go_wp2_with (go_at_call 7; refine (HKN.out _ HT0.out).mono ?_; rintro e wk ⟨rfl, kk⟩; have KK := Lib.hid kk; clear kk)
    go_ret
    exact ⟨rfl, KK.out⟩
  · have h6' : ¬ (600 : Int) < (s.size : Int) := by omega
    rcases reads_or s (by omega) with ⟨ce, q, hce, hq, hP⟩ | ⟨t, ht, h400, hP⟩
    · have HP := Lib.hid hP
      have n0 : ((ce : Int) == 0) = false := by simp [hce]
      have n0b : ((ce : Int) != 0) = true := by simp [hce]
      have hq0 : (0 : Int) ≤ (q : Int) := by omega
      have hq1 : (q : Int) ≤ (s.size : Int) := by omega
      clear hT w0 h6 hP hce hq
      go_enter Tryd.func5, Tryd.ntmps5
      go_wp2_with (first | (go_at_call 14; refine (HP.out _).mono ?_; rintro e w1 ⟨A1, c1, rfl, k⟩; have HB1 := Lib.hid k; have HT1 := Lib.hid (HT0.out.below k); clear k) | (go_at_call 7; refine (HKN.out _ HT1.out).mono ?_; rintro e wk ⟨rfl, kk⟩; have KK := Lib.hid kk; clear kk))
      go_ret
      exact ⟨rfl, grows HB1.out KK.out⟩
    · obtain ⟨N, hN⟩ : ∃ N, N = (enc t).length := ⟨_, rfl⟩
      rw [← hN] at hP
      have HP := Lib.hid hP
      have h0 : checkI (enc t) = 0 := (checkI_iff (fun x hx => (right_enc t ht x hx).1)).2 ⟨h400, t, ht, rfl⟩
      have HC : Hid (∀ u A c, nds u A (enc t) → Calls Tryd.prog 8 #[.slice A N c] u fun e w' => e = .returned (.int .i64 0) ∧ Below u.heap.size u w') := Lib.hid (fun u A c h => by rw [hN, ← h0]; exact Check_any (by omega) (Lib.hid h))
      obtain ⟨S, hS⟩ : ∃ S, S = str (Rt.tx t) := ⟨_, rfl⟩
      have HS : Hid (∀ u A c, N ≤ c → nds u A (enc t) → tab u → Calls Tryd.prog 10 #[.slice A N c] u fun e w' => e = .returned (.string S) ∧ Below u.heap.size u w') := Lib.hid (fun u A c hc h k => by rw [hN, hS]; exact Show_yes ht (by omega) h0 h400 (Lib.hid h) (Lib.hid k))
      have hz : S.size ≤ 1000000 := by rw [hS, str_size]; have := tx_len t; omega
      have HSM : Hid (∀ u A1 c1 A2 c2, nds u A1 (enc t) → nds u A2 (enc t) → Calls Tryd.prog 15 #[.slice A1 N c1, .slice A2 N c2] u fun e w' => e = .returned (.bool true) ∧ Below u.heap.size u w') := Lib.hid (fun u A1 c1 A2 c2 h1 h2 => by rw [hN]; refine (rSame_same h1 h2 (by omega)).mono ?_; rintro e w' ⟨he, m, rfl⟩; exact ⟨he, below_draws _ _⟩)
      by_cases h512 : 512 < S.size
      · have h512' : (512 : Int) < (S.size : Int) := by omega
        have HP2 : Hid (∀ u, Calls Tryd.prog 14 #[.string S] u fun e w' => ∃ v c q, e = .returned (.tuple #[v, .int .i64 c, .int .i64 q]) ∧ Below u.heap.size u w') := Lib.hid (fun u => reads_any S (by omega) u)
        clear hN w0 h6 hT hS hz h512 ht h0 h400 hP
        go_enter Tryd.func5, Tryd.ntmps5
        go_wp2_with (first | (go_at_call 14; (with_reducible refine (HP.out _).mono ?_); rintro e w1 ⟨A1, c1, rfl, hm, k⟩; have HB1 := Lib.hid k; have HT1 := Lib.hid (HT0.out.below k); have HN1 := Lib.hid hm.2; have HC1 := Lib.hid hm.1; clear k hm) | (go_at_call 10; (with_reducible refine (HS.out _ _ _ HC1.out HN1.out HT1.out).mono ?_); rintro e w2 ⟨rfl, k⟩; have HB2 := Lib.hid (grows HB1.out k); have HT2 := Lib.hid (HT1.out.below k); have HN2 := Lib.hid (HN1.out.below k); clear k) | (go_at_call 14; (with_reducible refine (HP2.out _).mono ?_); rintro e w3 ⟨v3, c3, q3, rfl, k⟩; have HB3 := Lib.hid (grows HB2.out k); have HT3 := Lib.hid (HT2.out.below k); have HN3 := Lib.hid (HN2.out.below k); clear k) | (go_at_call 8; refine (HC.out _ _ _ HN3.out).mono ?_; rintro e w4 ⟨rfl, k⟩; have HB4 := Lib.hid (grows HB3.out k); have HT4 := Lib.hid (HT3.out.below k); have HN4 := Lib.hid (HN3.out.below k); try (have HM4 := Lib.hid (HM3.out.below k)); clear k) | (go_at_call 7; refine (HKN.out _ HT4.out).mono ?_; rintro e wk ⟨rfl, kk⟩; have KK := Lib.hid kk; clear kk))
        go_ret
        exact ⟨rfl, grows HB4.out KK.out⟩
      · have h512' : ¬ (512 : Int) < (S.size : Int) := by omega
        have HP2 : Hid (∀ u, Calls Tryd.prog 14 #[.string S] u fun e w' => ∃ A cap, e = .returned (.tuple #[.slice A N cap, .int .i64 0, .int .i64 0]) ∧ (N ≤ cap ∧ nds w' A (enc t)) ∧ Below u.heap.size u w') := Lib.hid (fun u => by rw [hN, hS]; exact again ht h400 (by rw [← hS]; omega) u)
        clear hN w0 h6 hT hS hz h512 ht h0 h400 hP
        go_enter Tryd.func5, Tryd.ntmps5
        go_wp2_with (first | (go_at_call 14; (with_reducible refine (HP.out _).mono ?_); rintro e w1 ⟨A1, c1, rfl, hm, k⟩; have HB1 := Lib.hid k; have HT1 := Lib.hid (HT0.out.below k); have HN1 := Lib.hid hm.2; have HC1 := Lib.hid hm.1; clear k hm) | (go_at_call 10; (with_reducible refine (HS.out _ _ _ HC1.out HN1.out HT1.out).mono ?_); rintro e w2 ⟨rfl, k⟩; have HB2 := Lib.hid (grows HB1.out k); have HT2 := Lib.hid (HT1.out.below k); have HN2 := Lib.hid (HN1.out.below k); clear k) | (go_at_call 14; (with_reducible refine (HP2.out _).mono ?_); rintro e w3 ⟨A3, c3, rfl, hm, k⟩; have HB3 := Lib.hid (grows HB2.out k); have HT3 := Lib.hid (HT2.out.below k); have HN3 := Lib.hid (HN2.out.below k); have HM3 := Lib.hid hm.2; have HC3 := Lib.hid hm.1; clear k hm) | (go_at_call 8; refine (HC.out _ _ _ HN3.out).mono ?_; rintro e w4 ⟨rfl, k⟩; have HB4 := Lib.hid (grows HB3.out k); have HT4 := Lib.hid (HT3.out.below k); have HN4 := Lib.hid (HN3.out.below k); try (have HM4 := Lib.hid (HM3.out.below k)); clear k) | (go_at_call 15; refine (HSM.out _ _ _ _ _ HM4.out HN4.out).mono ?_; rintro e w5 ⟨rfl, k⟩; have HB5 := Lib.hid (grows HB4.out k); have HT5 := Lib.hid (HT4.out.below k); have HM5 := Lib.hid (HM4.out.below k); clear k) | (go_at_call 10; (with_reducible refine (HS.out _ _ _ HC3.out HM5.out HT5.out).mono ?_); rintro e w6 ⟨rfl, k⟩; have HB6 := Lib.hid (grows HB5.out k); have HT6 := Lib.hid (HT5.out.below k); clear k) | (go_at_call 7; refine (HKN.out _ HT6.out).mono ?_; rintro e wk ⟨rfl, kk⟩; have KK := Lib.hid kk; clear kk))
        go_ret
        exact ⟨rfl, grows HB6.out KK.out⟩
end Go.Proofs.YtabcehifdomolaaDoor.Rxagain
