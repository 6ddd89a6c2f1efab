/-
  collimatorlaw18.DfaRuns: whether any automaton can be, where a byte and a text lead, and the rule there, is as the reference says.
  Conditions: none. The walk of the call (made by tools/gendfa18.py).
-/
import Derived.Test.YtfipagndpoahlaaUq
namespace Go.Proofs.Ytfipagndpoahlaa.Uxruns
open Go.RowKit Go.PlainAid Go.Proofs.Ytfipagndpoahlaa.Bw Go.Proofs.Ytfipagndpoahlaa.Na Go.Proofs.Ytfipagndpoahlaa.Ko Go.Proofs.Ytfipagndpoahlaa.Ua Go.Proofs.Ytfipagndpoahlaa.Ub Go.Proofs.Ytfipagndpoahlaa.Uc Go.Proofs.Ytfipagndpoahlaa.Ud Go.Proofs.Ytfipagndpoahlaa.Ue Go.Proofs.Ytfipagndpoahlaa.Uf Go.Proofs.Ytfipagndpoahlaa.Ug Go.Proofs.Ytfipagndpoahlaa.Uh Go.Proofs.Ytfipagndpoahlaa.Ui Go.Proofs.Ytfipagndpoahlaa.Uj Go.Proofs.Ytfipagndpoahlaa.Uk Go.Proofs.Ytfipagndpoahlaa.Ul Go.Proofs.Ytfipagndpoahlaa.Um Go.Proofs.Ytfipagndpoahlaa.Un Go.Proofs.Ytfipagndpoahlaa.Uo Go.Proofs.Ytfipagndpoahlaa.Up Go.Proofs.Ytfipagndpoahlaa.Uq

set_option maxHeartbeats 4000000 in
set_option maxRecDepth 100000 in
theorem walk (V : Array Value) (D : Df) (z : Int) (s : ByteArray) (W : World) (w0 : dfa W V D) (_w1 : (Lit.int .i64 z).wf = true) (w2 : s.size ≤ maxLen) :
    Calls Try.prog 3 #[.agg V, .int .i64 z, .string s] W fun e w' => e = .returned (.bool true) ∧ Below W.heap.size W w' := by
  have hs : s.size ≤ 9223372036854775807 := w2
  have HKN := Lib.hid (fun u => known_any u)
  obtain ⟨A1, c1, A2, c2, wv⟩ := w0
  obtain ⟨wb, hwb⟩ : ∃ wb, wb = W.alloc (.cells V 26) := ⟨_, rfl⟩
  have BW : Hid (Below W.heap.size W wb) := Lib.hid (by rw [hwb]; exact below_alloc _ _)
  have HBX : Hid (Blk wb W.heap.size 26 V) := Lib.hid (by rw [hwb]; exact Blk.fresh _ _ _)
  have HV := Lib.hid (wv.below BW.out)
  have HW := Lib.hid HV.out.of
  have HLI : Hid (∀ u, Below wb.heap.size wb u → Calls Try.prog 7 #[.agg V] u fun e w' => someB u e w') := Lib.hid (fun u k => Light_any (Lib.hid (HW.out.below k)))
  obtain ⟨N, hsz, hld⟩ := load_dfa (g := W.heap.size) wv.size
  have KB := Lib.hid (Below.refl wb.heap.size wb)
  have zb := HBX.out
  obtain ⟨c, hcc⟩ : ∃ c, c = s.size % 256 := ⟨_, rfl⟩
  have hc : c < 256 := by omega
  have hci : ((s.size : Int) % 256) = (c : Int) := by omega
  obtain ⟨b, hbo⟩ : ∃ b : Bool, b = true ↔ okD D := by
    by_cases ho : okD D
    · exact ⟨true, by simp [ho]⟩
    · exact ⟨false, by simp [ho]⟩
  obtain ⟨x1, hx1⟩ : ∃ x, x = stpI D z c := ⟨_, rfl⟩
  obtain ⟨x2, hx2⟩ : ∃ x, x = runI D (nbs s) := ⟨_, rfl⟩
  obtain ⟨x3, hx3⟩ : ∃ x, x = aftI D (nbs s) := ⟨_, rfl⟩
  have HR1 : Hid (∀ u, Below wb.heap.size wb u → Calls Try.prog 9 #[.agg V] u fun e w' => e = .returned (.bool b) ∧ Below u.heap.size u w') := Lib.hid (fun u k => (Right_any (Lib.hid (HW.out.below k))).mono fun e w' h => (by obtain ⟨x, rfl, hx, k⟩ := h; exact ⟨by rw [Bool.eq_iff_iff.2 (hx.trans hbo.symm)], k⟩))
  have HR2 : Hid (∀ u, Below wb.heap.size wb u → Calls Try.prog 10 #[.agg V] u fun e w' => e = .returned (.bool b) ∧ Below u.heap.size u w') := Lib.hid (fun u k => (rRight_any (Lib.hid (HW.out.below k))).mono fun e w' h => (by obtain ⟨x, rfl, hx, k⟩ := h; exact ⟨by rw [Bool.eq_iff_iff.2 (hx.trans hbo.symm)], k⟩))
  have HS1 : Hid (∀ u, Below wb.heap.size wb u → Calls Try.prog 11 #[.agg V, .int .i64 z, .int .u8 (c : Int)] u fun e w' => e = .returned (.int .i64 x1) ∧ Below u.heap.size u w') := Lib.hid (fun u k => (by rw [hx1]; exact Step_any z hc (Lib.hid (HW.out.below k))))
  have HS2 : Hid (∀ u, Below wb.heap.size wb u → Calls Try.prog 12 #[.agg V, .int .i64 z, .int .u8 (c : Int)] u fun e w' => e = .returned (.int .i64 x1) ∧ Below u.heap.size u w') := Lib.hid (fun u k => (by rw [hx1]; exact rStep_any z hc (Lib.hid (HW.out.below k))))
  have HU1 : Hid (∀ u, Below wb.heap.size wb u → Calls Try.prog 13 #[.agg V, .string s] u fun e w' => e = .returned (.int .i64 x2) ∧ Below u.heap.size u w') := Lib.hid (fun u k => (by rw [hx2]; exact Run_any hs (Lib.hid (HW.out.below k))))
  have HU2 : Hid (∀ u, Below wb.heap.size wb u → Calls Try.prog 14 #[.agg V, .string s] u fun e w' => e = .returned (.int .i64 x2) ∧ Below u.heap.size u w') := Lib.hid (fun u k => (by rw [hx2]; exact rRun_any hs (Lib.hid (HW.out.below k))))
  have HA1 : Hid (∀ u, Below wb.heap.size wb u → Calls Try.prog 15 #[.agg V, .string s] u fun e w' => e = .returned (.int .i64 x3) ∧ Below u.heap.size u w') := Lib.hid (fun u k => (by rw [hx3]; exact After_any hs (Lib.hid (HW.out.below k))))
  have HA2 : Hid (∀ u, Below wb.heap.size wb u → Calls Try.prog 16 #[.agg V, .string s] u fun e w' => e = .returned (.int .i64 x3) ∧ Below u.heap.size u w') := Lib.hid (fun u k => (by rw [hx3]; exact rAfter_any hs (Lib.hid (HW.out.below k))))
  have HCI := Lib.hid hci
  clear wv _w1 hcc hc hbo hx1 hx2 hx3 HW HV hci
  go_enter Try.func3, Try.ntmps3
  go_upto_region 1 with fail
  rw [← hwb]
  clear hwb
  by_cases h9 : 1000 < s.size
  · have h9' : (1000 : Int) < (s.size : Int) := by omega
    go_upto_region 2 with (go_at_call 7; refine (HLI.out _ KB.out).mono ?_; rintro e u ⟨bl, rfl, k⟩; have KB := Lib.hid (grows KB.out k); clear k zb; have zb := HBX.out.below KB.out; cases bl)
    all_goals
      go_wp2_with (go_at_call 8; refine (HKN.out _).mono ?_; rintro e u ⟨rfl, k⟩; have KB := Lib.hid (grows KB.out k); clear k zb; have zb := HBX.out.below KB.out)
      go_ret
      exact ⟨rfl, grows BW.out KB.out⟩
  · have h9' : ¬ (1000 : Int) < (s.size : Int) := by omega
    go_upto_region 2 with (go_at_call 7; refine (HLI.out _ KB.out).mono ?_; rintro e u ⟨bl, rfl, k⟩; have KB := Lib.hid (grows KB.out k); clear k zb; have zb := HBX.out.below KB.out; cases bl)
    · go_wp2_with (go_at_call 8; refine (HKN.out _).mono ?_; rintro e u ⟨rfl, k⟩; have KB := Lib.hid (grows KB.out k); clear k zb; have zb := HBX.out.below KB.out)
      go_ret
      exact ⟨rfl, grows BW.out KB.out⟩
    · rw [HCI.out]
      have KB := Lib.hid (below_drew KB.out)
      cases b
      all_goals
        go_region_held3 (fun w' => Blk w' W.heap.size 26 V)
          (first | exact HBX.out.below KB.out | assumption)
          (first | (go_at_call 9; (with_reducible refine (HR1.out _ KB.out).mono ?_); rintro e u ⟨rfl, k⟩; have KB := Lib.hid (grows KB.out k); clear k zb; have zb := HBX.out.below KB.out) | (go_at_call 10; (with_reducible refine (HR2.out _ KB.out).mono ?_); rintro e u ⟨rfl, k⟩; have KB := Lib.hid (grows KB.out k); clear k zb; have zb := HBX.out.below KB.out) | (go_at_call 11; (with_reducible refine (HS1.out _ KB.out).mono ?_); rintro e u ⟨rfl, k⟩; have KB := Lib.hid (grows KB.out k); clear k zb; have zb := HBX.out.below KB.out) | (go_at_call 12; (with_reducible refine (HS2.out _ KB.out).mono ?_); rintro e u ⟨rfl, k⟩; have KB := Lib.hid (grows KB.out k); clear k zb; have zb := HBX.out.below KB.out) | (go_at_call 13; (with_reducible refine (HU1.out _ KB.out).mono ?_); rintro e u ⟨rfl, k⟩; have KB := Lib.hid (grows KB.out k); clear k zb; have zb := HBX.out.below KB.out) | (go_at_call 14; (with_reducible refine (HU2.out _ KB.out).mono ?_); rintro e u ⟨rfl, k⟩; have KB := Lib.hid (grows KB.out k); clear k zb; have zb := HBX.out.below KB.out) | (go_at_call 15; (with_reducible refine (HA1.out _ KB.out).mono ?_); rintro e u ⟨rfl, k⟩; have KB := Lib.hid (grows KB.out k); clear k zb; have zb := HBX.out.below KB.out) | (go_at_call 16; (with_reducible refine (HA2.out _ KB.out).mono ?_); rintro e u ⟨rfl, k⟩; have KB := Lib.hid (grows KB.out k); clear k zb; have zb := HBX.out.below KB.out) | (go_at_call 8; refine (HKN.out _).mono ?_; rintro e u ⟨rfl, k⟩; have KB := Lib.hid (grows KB.out k); clear k zb; have zb := HBX.out.below KB.out))
        go_wp2
        go_ret
        exact ⟨rfl, grows BW.out KB.out⟩
end Go.Proofs.Ytfipagndpoahlaa.Uxruns
