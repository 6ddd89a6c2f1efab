/-
  collimatorlaw15.RegexEmpty: Empty tells of a right tree what its definition says, and of any other nodes that they match nothing.
  Conditions: the table of powers of ten lies in memory. The walk of the call.
-/
import Derived.Test.YtabcehifdomolaaDoorQau
namespace Go.Proofs.YtabcehifdomolaaDoor.Rxempty
open Go.RowKit Go.PlainAid Go.Proofs.YtabcehifdomolaaDoor.Bw Go.Proofs.YtabcehifdomolaaDoor.Tm Go.Proofs.YtabcehifdomolaaDoor.Rm Go.Proofs.YtabcehifdomolaaDoor.Rv Go.Proofs.YtabcehifdomolaaDoor.Ra Go.Proofs.YtabcehifdomolaaDoor.Rg Go.Proofs.YtabcehifdomolaaDoor.Rh Go.Proofs.YtabcehifdomolaaDoor.Eb Go.Proofs.YtabcehifdomolaaDoor.Ec Go.Proofs.YtabcehifdomolaaDoor.Re Go.Proofs.YtabcehifdomolaaDoor.Ekn Go.Proofs.YtabcehifdomolaaDoor.Etb Go.Proofs.YtabcehifdomolaaDoor.Esx Go.Proofs.YtabcehifdomolaaDoor.Rj

set_option maxHeartbeats 4000000 in
set_option maxRecDepth 100000 in
theorem walk (A : Option Addr) (c : Nat) (l : List Nd) (W : World) (hc : l.length ≤ c) (w0 : nds W A l) (hT : tab W) :
    Calls Tryd.prog 6 #[.slice A l.length c] W fun e w' => e = .returned (.bool true) ∧ Below W.heap.size W w' := by
  have HKN : Hid (∀ u, tab u → Calls Tryd.prog 7 #[] u fun e w' => e = .returned (.bool true) ∧ Below u.heap.size u w') := Lib.hid (fun u h => known_any (Lib.hid h))
  have HT0 := Lib.hid hT
  have HN0 := Lib.hid w0
  have HB0 : Hid (Below W.heap.size W W) := Lib.hid (Below.refl _ _)
  obtain ⟨N, hN⟩ : ∃ N, N = l.length := ⟨_, rfl⟩
  by_cases h5 : 500 < N
  · have h5' : (500 : Int) < (N : Int) := by omega
    rw [← hN]
    clear hN hc w0 h5 hT
    go_enter Tryd.func6, Tryd.ntmps6
    go_wp2_with (go_at_call 7; refine (HKN.out _ HT0.out).mono ?_; rintro e wk ⟨rfl, kk⟩; have KK := Lib.hid kk; clear kk)
    go_ret
    exact ⟨rfl, KK.out⟩
  · have h5' : ¬ (500 : Int) < (N : Int) := by omega
    have hl : l.length ≤ 1000000 := by omega
    obtain ⟨q, hq⟩ : ∃ q, q = checkI l := ⟨_, rfl⟩
    have HRC : Hid (∀ u, nds u A l → Calls Tryd.prog 9 #[.slice A N c] u fun e w' => e = .returned (.int .i64 q) ∧ Below u.heap.size u w') := Lib.hid (fun u h => by rw [hN, hq]; exact rCheck_any hl (Lib.hid h))
    rcases emptys_both (cap := c) hl hc w0 with ⟨h4, hE⟩ | ⟨h0, b, hE, hRE⟩
    · rw [← hN] at hE
      have HE := Lib.hid hE
      rw [← hq] at h4
      subst h4
      rw [← hN]
      clear hN hc w0 h5 hT hl hq hE
      go_enter Tryd.func6, Tryd.ntmps6
      go_wp2_with (first | (go_at_call 9; refine (HRC.out _ HN0.out).mono ?_; rintro e w1 ⟨rfl, k⟩; have HB1 := Lib.hid (grows HB0.out k); have HN1 := Lib.hid (HN0.out.below k); have HT1 := Lib.hid (HT0.out.below k); clear k) | (go_at_call 16; refine (HE.out _ HN1.out).mono ?_; rintro e w2 ⟨rfl, k⟩; have HB2 := Lib.hid (grows HB1.out k); have HN2 := Lib.hid (HN1.out.below k); have HT2 := Lib.hid (HT1.out.below k); clear k) | (go_at_call 7; refine (HKN.out _ HT2.out).mono ?_; rintro e wk ⟨rfl, kk⟩; have KK := Lib.hid kk; clear kk))
      go_ret
      exact ⟨rfl, grows HB2.out KK.out⟩
    · rw [← hN] at hE hRE
      have HE := Lib.hid hE
      have HRE := Lib.hid hRE
      rw [← hq] at h0
      subst h0
      rw [← hN]
      clear hN hc w0 h5 hT hl hq hE hRE
      cases b <;>
      (go_enter Tryd.func6, Tryd.ntmps6
       go_wp2_with (first | (go_at_call 9; refine (HRC.out _ HN0.out).mono ?_; rintro e w1 ⟨rfl, k⟩; have HB1 := Lib.hid (grows HB0.out k); have HN1 := Lib.hid (HN0.out.below k); have HT1 := Lib.hid (HT0.out.below k); clear k) | (go_at_call 16; refine (HE.out _ HN1.out).mono ?_; rintro e w2 ⟨rfl, k⟩; have HB2 := Lib.hid (grows HB1.out k); have HN2 := Lib.hid (HN1.out.below k); have HT2 := Lib.hid (HT1.out.below k); clear k) | (go_at_call 17; refine (HRE.out _ HN2.out).mono ?_; rintro e w3 ⟨rfl, k⟩; have HB3 := Lib.hid (grows HB2.out k); have HN3 := Lib.hid (HN2.out.below k); have HT3 := Lib.hid (HT2.out.below k); clear k) | (go_at_call 7; refine (HKN.out _ HT3.out).mono ?_; rintro e wk ⟨rfl, kk⟩; have KK := Lib.hid kk; clear kk))
       go_ret
       exact ⟨rfl, grows HB3.out KK.out⟩)
end Go.Proofs.YtabcehifdomolaaDoor.Rxempty
