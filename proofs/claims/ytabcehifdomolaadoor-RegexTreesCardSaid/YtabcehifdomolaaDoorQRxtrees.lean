/-
  collimatorlaw15.RegexTrees: what Check, Show and End answer of any nodes is what the reference's answer.
  Conditions: the table of powers of ten lies in memory. The walk of the call.
-/
import Derived.Test.YtabcehifdomolaaDoorQau
namespace Go.Proofs.YtabcehifdomolaaDoor.Rxtrees
open Go.RowKit Go.PlainAid Go.Proofs.YtabcehifdomolaaDoor.Bw Go.Proofs.YtabcehifdomolaaDoor.Tm Go.Proofs.YtabcehifdomolaaDoor.Rm Go.Proofs.YtabcehifdomolaaDoor.Rv Go.Proofs.YtabcehifdomolaaDoor.Ra Go.Proofs.YtabcehifdomolaaDoor.Rg Go.Proofs.YtabcehifdomolaaDoor.Rh Go.Proofs.YtabcehifdomolaaDoor.Eb Go.Proofs.YtabcehifdomolaaDoor.Ec Go.Proofs.YtabcehifdomolaaDoor.Re Go.Proofs.YtabcehifdomolaaDoor.Ekn Go.Proofs.YtabcehifdomolaaDoor.Etb Go.Proofs.YtabcehifdomolaaDoor.Esx Go.Proofs.YtabcehifdomolaaDoor.Rj

set_option maxHeartbeats 4000000 in
set_option maxRecDepth 100000 in
theorem walk (A : Option Addr) (c : Nat) (l : List Nd) (i : Int) (W : World) (hc : l.length ≤ c) (w0 : nds W A l) (w1 : (Lit.int .i64 i).wf = true) (hT : tab W) :
    Calls Tryd.prog 3 #[.slice A l.length c, .int .i64 i] W fun e w' => e = .returned (.bool true) ∧ Below W.heap.size W w' := by
  have HKN : Hid (∀ u, tab u → Calls Tryd.prog 7 #[] u fun e w' => e = .returned (.bool true) ∧ Below u.heap.size u w') := Lib.hid (fun u h => known_any (Lib.hid h))
  have HT0 := Lib.hid hT
  have HN0 := Lib.hid w0
  have HB0 : Hid (Below W.heap.size W W) := Lib.hid (Below.refl _ _)
  have hi : i ≤ 9223372036854775807 := by simp [Lit.wf, IntKind.min, IntKind.max, IntKind.signed, IntKind.bits] at w1; omega
  obtain ⟨N, hN⟩ : ∃ N, N = l.length := ⟨_, rfl⟩
  by_cases h5 : 500 < N
  · have h5' : (500 : Int) < (N : Int) := by omega
    rw [← hN]
    clear hN hc w0 w1 hi h5 hT
    go_enter Tryd.func3, Tryd.ntmps3
    go_wp2_with (go_at_call 7; refine (HKN.out _ HT0.out).mono ?_; rintro e wk ⟨rfl, kk⟩; have KK := Lib.hid kk; clear kk)
    go_ret
    exact ⟨rfl, KK.out⟩
  · have h5' : ¬ (500 : Int) < (N : Int) := by omega
    have hl : l.length ≤ 1000000 := by omega
    obtain ⟨q, hq⟩ : ∃ q, q = checkI l := ⟨_, rfl⟩
    obtain ⟨E, hE⟩ : ∃ E, E = endI l i := ⟨_, rfl⟩
    have HC : Hid (∀ u, nds u A l → Calls Tryd.prog 8 #[.slice A N c] u fun e w' => e = .returned (.int .i64 q) ∧ Below u.heap.size u w') := Lib.hid (fun u h => by rw [hN, hq]; exact Check_any hl (Lib.hid h))
    have HRC : Hid (∀ u, nds u A l → Calls Tryd.prog 9 #[.slice A N c] u fun e w' => e = .returned (.int .i64 q) ∧ Below u.heap.size u w') := Lib.hid (fun u h => by rw [hN, hq]; exact rCheck_any hl (Lib.hid h))
    have HE : Hid (∀ u, nds u A l → Calls Tryd.prog 12 #[.slice A N c, .int .i64 i] u fun e w' => e = .returned (.int .i64 E) ∧ u = w') := Lib.hid (fun u h => by rw [hN, hE]; exact End_any hl i hi (Lib.hid h))
    have HRE : Hid (∀ u, nds u A l → Calls Tryd.prog 13 #[.slice A N c, .int .i64 i] u fun e w' => e = .returned (.int .i64 E) ∧ u = w') := Lib.hid (fun u h => by rw [hN, hE]; exact rEnd_any hl i hi (Lib.hid h))
    obtain ⟨S, hS, hRS⟩ := shows_both (cap := c) hl hc w0
    rw [← hN] at hS hRS
    have HS := Lib.hid hS
    have HRS := Lib.hid hRS
    rw [← hN]
    clear hN hc w0 w1 hi h5 hT hl hq hE hS hRS
    go_enter Tryd.func3, Tryd.ntmps3
    go_wp2_with (first | (go_at_call 8; refine (HC.out _ HN0.out).mono ?_; rintro e w1 ⟨rfl, k⟩; have HB1 := Lib.hid (grows HB0.out k); have HN1 := Lib.hid (HN0.out.below k); have HT1 := Lib.hid (HT0.out.below k); clear k) | (go_at_call 9; refine (HRC.out _ HN1.out).mono ?_; rintro e w2 ⟨rfl, k⟩; have HB2 := Lib.hid (grows HB1.out k); have HN2 := Lib.hid (HN1.out.below k); have HT2 := Lib.hid (HT1.out.below k); clear k) | (go_at_call 10; refine (HS.out _ HN2.out HT2.out).mono ?_; rintro e w3 ⟨rfl, k⟩; have HB3 := Lib.hid (grows HB2.out k); have HN3 := Lib.hid (HN2.out.below k); have HT3 := Lib.hid (HT2.out.below k); clear k) | (go_at_call 11; refine (HRS.out _ HN3.out).mono ?_; rintro e w4 ⟨rfl, k⟩; have HB4 := Lib.hid (grows HB3.out k); have HN4 := Lib.hid (HN3.out.below k); have HT4 := Lib.hid (HT3.out.below k); clear k) | (go_at_call 12; refine (HE.out _ HN4.out).mono ?_; rintro e w5 ⟨rfl, rfl⟩) | (go_at_call 13; refine (HRE.out _ HN4.out).mono ?_; rintro e w6 ⟨rfl, rfl⟩) | (go_at_call 7; refine (HKN.out _ HT4.out).mono ?_; rintro e wk ⟨rfl, kk⟩; have KK := Lib.hid kk; clear kk))
    go_ret
    exact ⟨rfl, grows HB4.out KK.out⟩
end Go.Proofs.YtabcehifdomolaaDoor.Rxtrees
