/-
  collimatorlaw18.DfaLives: from which states of any automaton a rule can be reached, and whether two are alike, is as the reference says.
  Conditions: none. The walk of the call (made by tools/gendfa18.py).
-/
import Derived.Test.YtfipagndpoahlaaUq
namespace Go.Proofs.Ytfipagndpoahlaa.Uxlives
open Go.RowKit Go.PlainAid Go.Proofs.Ytfipagndpoahlaa.Bw Go.Proofs.Ytfipagndpoahlaa.Na Go.Proofs.Ytfipagndpoahlaa.Ko Go.Proofs.Ytfipagndpoahlaa.Ua Go.Proofs.Ytfipagndpoahlaa.Ub Go.Proofs.Ytfipagndpoahlaa.Uc Go.Proofs.Ytfipagndpoahlaa.Ud Go.Proofs.Ytfipagndpoahlaa.Ue Go.Proofs.Ytfipagndpoahlaa.Uf Go.Proofs.Ytfipagndpoahlaa.Ug Go.Proofs.Ytfipagndpoahlaa.Uh Go.Proofs.Ytfipagndpoahlaa.Ui Go.Proofs.Ytfipagndpoahlaa.Uj Go.Proofs.Ytfipagndpoahlaa.Uk Go.Proofs.Ytfipagndpoahlaa.Ul Go.Proofs.Ytfipagndpoahlaa.Um Go.Proofs.Ytfipagndpoahlaa.Un Go.Proofs.Ytfipagndpoahlaa.Uo Go.Proofs.Ytfipagndpoahlaa.Up Go.Proofs.Ytfipagndpoahlaa.Uq

theorem liv_same {D : Df} {B n m : Nat} {f g : Nat → Bool} (hK : D.nx.length ≤ B) (y3 : okD D → n = D.nx.length ∧ ∀ p, p < n → (f p = true ↔ lv D p)) (z3 : ¬ okD D → n = 0) (y4 : okD D → m = D.nx.length ∧ ∀ p, p < m → (g p = true ↔ lv D p)) (z4 : ¬ okD D → m = 0) : m = n ∧ n ≤ B ∧ ∀ i, i < n → f i = g i := by
  by_cases ho : okD D
  · obtain ⟨a1, a2⟩ := y3 ho
    obtain ⟨b1, b2⟩ := y4 ho
    exact ⟨by omega, by omega, fun i hi => Bool.eq_iff_iff.2 ((a2 i hi).trans (b2 i (by omega)).symm)⟩
  · have h1 := z3 ho
    have h2 := z4 ho
    exact ⟨by omega, by omega, fun i hi => absurd hi (by omega)⟩
set_option maxHeartbeats 4000000 in
set_option maxRecDepth 100000 in
theorem walk (V : Array Value) (D : Df) (V' : Array Value) (E : Df) (W : World) (w0 : dfa W V D) (w1 : dfa W V' E) :
    Calls Try.prog 4 #[.agg V, .agg V'] W fun e w' => e = .returned (.bool true) ∧ Below W.heap.size W w' := by
  have HKN := Lib.hid (fun u => known_any u)
  obtain ⟨A1, c1, A2, c2, wv⟩ := w0
  obtain ⟨A1', c1', A2', c2', wv'⟩ := w1
  obtain ⟨wb, hwb⟩ : ∃ wb, wb = (W.alloc (.cells V 26)).alloc (.cells V' 26) := ⟨_, rfl⟩
  obtain ⟨ka, kb, bb⟩ := two_blk W 26 26 V V'
  rw [← hwb] at ka kb bb
  have BW := Lib.hid bb
  have HV := Lib.hid (wv.below BW.out)
  have HW := Lib.hid HV.out.of
  have HW' := Lib.hid (wv'.below BW.out).of
  obtain ⟨K, hKD⟩ : ∃ K, K = D.nx.length := ⟨_, rfl⟩
  have HBX : Hid (∀ u, Below wb.heap.size wb u → Blk u W.heap.size 26 V ∧ Blk u (W.heap.size + 1) 26 V' ∧ u.cell? ⟨W.heap.size, 256, none⟩ = some (.slice A1 K c1)) := Lib.hid (fun u k => ⟨ka.below k, kb.below k, ((ka.below k).cell 256).trans (by rw [hKD]; exact HV.out.vn)⟩)
  have HLI : Hid (∀ u, Below wb.heap.size wb u → Calls Try.prog 7 #[.agg V] u fun e w' => someB u e w') := Lib.hid (fun u k => Light_any (Lib.hid (HW.out.below k)))
  have HLJ : Hid (∀ u, Below wb.heap.size wb u → Calls Try.prog 7 #[.agg V'] u fun e w' => someB u e w') := Lib.hid (fun u k => Light_any (Lib.hid (HW'.out.below k)))
  have HL1 : Hid (∀ u, Below wb.heap.size wb u → Calls Try.prog 18 #[.agg V] u fun e w' => livA D u e w') := Lib.hid (fun u k => Live_any (Lib.hid (HW.out.below k)))
  have HL2 : Hid (∀ u, Below wb.heap.size wb u → Calls Try.prog 19 #[.agg V] u fun e w' => livA D u e w') := Lib.hid (fun u k => rLive_any (Lib.hid (HW.out.below k)))
  obtain ⟨b, hbo⟩ : ∃ b : Bool, b = true ↔ D = E := by
    by_cases ho : D = E
    · exact ⟨true, by simp [ho]⟩
    · exact ⟨false, by simp [ho]⟩
  have HS1 : Hid (∀ u, Below wb.heap.size wb u → Calls Try.prog 20 #[.agg V, .agg V'] u fun e w' => e = .returned (.bool b) ∧ Below u.heap.size u w') := Lib.hid (fun u k => (Same_any (Lib.hid (HW.out.below k)) (Lib.hid (HW'.out.below k))).mono fun e w' h => (by obtain ⟨x, rfl, hx, k⟩ := h; exact ⟨by rw [Bool.eq_iff_iff.2 (hx.trans hbo.symm)], k⟩))
  have HS2 : Hid (∀ u, Below wb.heap.size wb u → Calls Try.prog 21 #[.agg V, .agg V'] u fun e w' => e = .returned (.bool b) ∧ Below u.heap.size u w') := Lib.hid (fun u k => (rSame_any (Lib.hid (HW.out.below k)) (Lib.hid (HW'.out.below k))).mono fun e w' h => (by obtain ⟨x, rfl, hx, k⟩ := h; exact ⟨by rw [Bool.eq_iff_iff.2 (hx.trans hbo.symm)], k⟩))
  have HS3 : Hid (∀ u, Below wb.heap.size wb u → Calls Try.prog 20 #[.agg V, .agg V] u fun e w' => e = .returned (.bool true) ∧ Below u.heap.size u w') := Lib.hid (fun u k => (Same_any (Lib.hid (HW.out.below k)) (Lib.hid (HW.out.below k))).mono fun e w' h => h.yes rfl)
  have HK : Hid (D.nx.length ≤ 9223372036854775807) := Lib.hid wv.k
  obtain ⟨N, hN, hsz⟩ := size_dfa
  have hl1 := loadN (g := W.heap.size) wv.size hN
  have hl2 := loadN (g := W.heap.size + 1) wv'.size hN
  have KB := Lib.hid (Below.refl wb.heap.size wb)
  have zb := HBX.out wb KB.out
  clear wv wv' ka kb bb hbo HW HW' HV hN hKD
  go_enter Try.func4, Try.ntmps4
  go_upto_region 1 with fail
  rw [← hwb]
  clear hwb
  by_cases h9 : 60 < K
  · have h9' : (60 : Int) < (K : Int) := by omega
    go_upto_region 2 with (first | (go_at_call 7; (with_reducible refine (HLI.out _ KB.out).mono ?_); rintro e u ⟨bl, rfl, k⟩; have KB := Lib.hid (grows KB.out k); clear zb; have zb := HBX.out _ KB.out; clear k; cases bl) | (go_at_call 7; (with_reducible refine (HLJ.out _ KB.out).mono ?_); rintro e u ⟨bl, rfl, k⟩; have KB := Lib.hid (grows KB.out k); clear zb; have zb := HBX.out _ KB.out; clear k; cases bl))
    all_goals
      go_wp2_with (go_at_call 8; refine (HKN.out _).mono ?_; rintro e u ⟨rfl, k⟩; have KB := Lib.hid (grows KB.out k); clear zb; have zb := HBX.out _ KB.out; clear k)
      go_ret
      exact ⟨rfl, grows BW.out KB.out⟩
  · have h9' : ¬ (60 : Int) < (K : Int) := by omega
    go_upto_region 2 with (first | (go_at_call 7; (with_reducible refine (HLI.out _ KB.out).mono ?_); rintro e u ⟨bl, rfl, k⟩; have KB := Lib.hid (grows KB.out k); clear zb; have zb := HBX.out _ KB.out; clear k; cases bl) | (go_at_call 7; (with_reducible refine (HLJ.out _ KB.out).mono ?_); rintro e u ⟨bl, rfl, k⟩; have KB := Lib.hid (grows KB.out k); clear zb; have zb := HBX.out _ KB.out; clear k; cases bl))
    · go_wp2_with (go_at_call 8; refine (HKN.out _).mono ?_; rintro e u ⟨rfl, k⟩; have KB := Lib.hid (grows KB.out k); clear zb; have zb := HBX.out _ KB.out; clear k)
      go_ret
      exact ⟨rfl, grows BW.out KB.out⟩
    · go_wp2_with (go_at_call 8; refine (HKN.out _).mono ?_; rintro e u ⟨rfl, k⟩; have KB := Lib.hid (grows KB.out k); clear zb; have zb := HBX.out _ KB.out; clear k)
      go_ret
      exact ⟨rfl, grows BW.out KB.out⟩
    · have KB := Lib.hid (below_drew KB.out)
      cases b
      all_goals
        go_region_held3 (fun w' => Blk w' W.heap.size 26 V ∧ Blk w' (W.heap.size + 1) 26 V' ∧ w'.cell? ⟨W.heap.size, 256, none⟩ = some (.slice A1 K c1))
          (first | exact HBX.out _ KB.out | assumption)
          (first | (go_at_call 18; (with_reducible refine (HL1.out _ KB.out).mono ?_); rintro e u ⟨A3, n3, p3, f3, rfl, r3, q3, y3, z3, k⟩; have R3 := Lib.hid r3; have Y3 := Lib.hid y3; have Z3 := Lib.hid z3; clear r3 q3 y3 z3; have KB := Lib.hid (grows KB.out k); clear zb; have zb := HBX.out _ KB.out; clear k) | (go_at_call 19; (with_reducible refine (HL2.out _ KB.out).mono ?_); rintro e u ⟨A4, n4, p4, f4, rfl, r4, q4, y4, z4, k⟩; obtain ⟨hh, hn3, hfg⟩ := liv_same HK.out Y3.out Z3.out y4 z4; clear Y3 Z3 y4 z4 q4; subst hh; have HBO := Lib.hid (Bools_same (c := p3) (c' := p4) hn3 hfg (Lib.hid (R3.out.below k)) (Lib.hid r4)); clear hn3 hfg r4 R3; have KB := Lib.hid (grows KB.out k); clear zb; have zb := HBX.out _ KB.out; clear k) | (go_at_call 17; (with_reducible refine HBO.out.mono ?_); rintro e u ⟨rfl, k⟩; clear HBO; have KB := Lib.hid (grows KB.out k); clear zb; have zb := HBX.out _ KB.out; clear k) | (go_at_call 20; (with_reducible refine (HS1.out _ KB.out).mono ?_); rintro e u ⟨rfl, k⟩; have KB := Lib.hid (grows KB.out k); clear zb; have zb := HBX.out _ KB.out; clear k) | (go_at_call 21; (with_reducible refine (HS2.out _ KB.out).mono ?_); rintro e u ⟨rfl, k⟩; have KB := Lib.hid (grows KB.out k); clear zb; have zb := HBX.out _ KB.out; clear k) | (go_at_call 20; (with_reducible refine (HS3.out _ KB.out).mono ?_); rintro e u ⟨rfl, k⟩; have KB := Lib.hid (grows KB.out k); clear zb; have zb := HBX.out _ KB.out; clear k) | (go_at_call 8; refine (HKN.out _).mono ?_; rintro e u ⟨rfl, k⟩; have KB := Lib.hid (grows KB.out k); clear zb; have zb := HBX.out _ KB.out; clear k))
        go_wp2
        go_ret
        exact ⟨rfl, grows BW.out KB.out⟩
end Go.Proofs.Ytfipagndpoahlaa.Uxlives
