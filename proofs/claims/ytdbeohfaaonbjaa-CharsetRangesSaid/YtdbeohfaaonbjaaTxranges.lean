/-
  The walk of collimatorlaw14.CharsetRanges.
-/
import Derived.Test.YtdbeohfaaonbjaaTz
namespace Go.Proofs.Ytdbeohfaaonbjaa.charsetRanges
open Go.RowKit Go.Proofs.Ytdbeohfaaonbjaa.Vm Go.Proofs.Ytdbeohfaaonbjaa.Vo Go.Proofs.Ytdbeohfaaonbjaa.Bw Go.Proofs.Ytdbeohfaaonbjaa.Na Go.Proofs.Ytdbeohfaaonbjaa.Tm Go.Proofs.Ytdbeohfaaonbjaa.Ts Go.Proofs.Ytdbeohfaaonbjaa.Ta Go.Proofs.Ytdbeohfaaonbjaa.Tb Go.Proofs.Ytdbeohfaaonbjaa.Tc Go.Proofs.Ytdbeohfaaonbjaa.Td Go.Proofs.Ytdbeohfaaonbjaa.Te Go.Proofs.Ytdbeohfaaonbjaa.Tf Go.Proofs.Ytdbeohfaaonbjaa.Tj Go.Proofs.Ytdbeohfaaonbjaa.Tk Go.Proofs.Ytdbeohfaaonbjaa.Tz

set_option maxHeartbeats 4000000 in
set_option maxRecDepth 100000 in
theorem walk (a0 a1 a2 : Int) (w0 : (Lit.int .u8 a0).wf = true) (w1 : (Lit.int .u8 a1).wf = true) (w2 : (Lit.int .u8 a2).wf = true) (w : World) :
    Calls Try.prog 6 #[.int .u8 a0, .int .u8 a1, .int .u8 a2] w fun e w' => e = .returned (.bool true) ∧ Below w.heap.size w w' := by
  obtain ⟨x, rfl, hx⟩ := wf8 w0
  obtain ⟨y, rfl, hy⟩ := wf8 w1
  obtain ⟨c, rfl, hc⟩ := wf8 w2
  obtain ⟨hz, hsz⟩ := zero_of_info infoS
  rw [sv_zero] at hz
  have hh := has_frm (x := x) hy hc
  have HR := Lib.hid (fun w => Range_any hx hy w)
  have HH := Lib.hid (fun w => Has_any (frm_set x (y + 1)) hc w)
  have HC := Lib.hid (fun w => Count_any (frm_set x (y + 1)) w)
  rw [hh] at HH
  rw [byt_frm hy] at HC
  obtain ⟨n0, n1, n2, n3, hn⟩ := four_of (frm_set x (y + 1))
  rw [hn] at HR HH HC
  have H4N : Hid ((sv [n0, n1, n2, n3]).size = 4) := Lib.hid rfl
  have H1N : Hid ((sv [n0, n1, n2, n3]).all (·.oneCell') = true) := Lib.hid (sv_one _)
  simp only [sv_four] at HR HH HC
  obtain ⟨N, hN⟩ : ∃ N, N = y + 1 - x := ⟨_, rfl⟩
  rw [← hN] at HC
  have hmax : (N : Int) = max 0 ((y : Int) - (x : Int) + 1) := by omega
  have HMX := Lib.hid hmax
  clear hn hsz hh hN hmax
  have h3 : ((decide (x ≤ c) && decide (c ≤ y)) = true ∧ (x : Int) ≤ (c : Int) ∧ (c : Int) ≤ (y : Int)) ∨ ((decide (x ≤ c) && decide (c ≤ y)) = false ∧ ¬ (x : Int) ≤ (c : Int) ∧ True) ∨ ((decide (x ≤ c) && decide (c ≤ y)) = false ∧ (x : Int) ≤ (c : Int) ∧ decide (c ≤ y) = false) := by
    by_cases h1 : x ≤ c
    · by_cases h2 : c ≤ y
      · exact .inl ⟨by simp [h1, h2], by omega, by omega⟩
      · exact .inr (.inr ⟨by simp [h2], by omega, decide_eq_false h2⟩)
    · exact .inr (.inl ⟨by simp [h1], by omega, trivial⟩)
  rcases h3 with ⟨hb, d1, d2⟩ | ⟨hb, d1, d2⟩ | ⟨hb, d1, d2⟩
  all_goals rw [hb] at HH
  all_goals clear hb w0 w1 w2
  all_goals go_enter Try.func6, Try.ntmps6
  all_goals go_wp2_with (first | (go_at_call 10; refine (HR.out _).mono ?_; rintro e w3 ⟨rfl, k3⟩; have K3 := Lib.hid k3; clear k3; have HB3 := Lib.hid (Blk.fresh w3 25 (sv zero))) | refine wpList_store_row rfl 25 _ _ rfl w3.heap.size (sv [n0, n1, n2, n3]) rfl rfl _ _ HB3.out (fit H4N.out) (Eq.trans (sv4 zero_set) (Eq.symm H4N.out)) H1N.out ?_ | refine wpList_load_row rfl 25 _ rfl w3.heap.size rfl _ _ _ _ (Blk_row HB3.out) Try.underlying25 rfl (fit H4N.out) ?_ | (go_at_call 19; refine (HH.out _).mono ?_; rintro e w4 ⟨rfl, k4⟩; have HK := Lib.hid (kp.next (W := w) (g := w3.heap.size) (a := [n0, n1, n2, n3]) ⟨Blk_row HB3.out, Below_setRow (K3.out.alloc (by have := K3.out.size; omega) _) K3.out.size _⟩ k4); clear k4; obtain ⟨c0, c1, c2, c3⟩ := cells4 HK.out.b) | (go_at_call 22; refine (HC.out _).mono ?_; rintro e w5 ⟨rfl, k5⟩; have HK := Lib.hid (HK.out.next k5); clear k5) | (go_at_call 7; refine (known_any _).mono ?_; rintro e w6 ⟨rfl, k6⟩; have HK := Lib.hid (HK.out.next k6); clear k6))
  all_goals go_ret
  all_goals exact ⟨rfl, HK.out.w⟩
end Go.Proofs.Ytdbeohfaaonbjaa.charsetRanges
