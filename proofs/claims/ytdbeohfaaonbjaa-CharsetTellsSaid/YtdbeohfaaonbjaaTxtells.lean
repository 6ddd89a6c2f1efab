/-
  The walk of collimatorlaw14.CharsetTells.
-/
import Derived.Test.YtdbeohfaaonbjaaTz
namespace Go.Proofs.Ytdbeohfaaonbjaa.charsetTells
open Go.RowKit Go.Proofs.Ytdbeohfaaonbjaa.Vm Go.Proofs.Ytdbeohfaaonbjaa.Vo Go.Proofs.Ytdbeohfaaonbjaa.Bw Go.Proofs.Ytdbeohfaaonbjaa.Na Go.Proofs.Ytdbeohfaaonbjaa.Tm Go.Proofs.Ytdbeohfaaonbjaa.Ts Go.Proofs.Ytdbeohfaaonbjaa.Ta Go.Proofs.Ytdbeohfaaonbjaa.Tb Go.Proofs.Ytdbeohfaaonbjaa.Tc Go.Proofs.Ytdbeohfaaonbjaa.Td Go.Proofs.Ytdbeohfaaonbjaa.Te Go.Proofs.Ytdbeohfaaonbjaa.Tf Go.Proofs.Ytdbeohfaaonbjaa.Tj Go.Proofs.Ytdbeohfaaonbjaa.Th Go.Proofs.Ytdbeohfaaonbjaa.Ti Go.Proofs.Ytdbeohfaaonbjaa.Tn Go.Proofs.Ytdbeohfaaonbjaa.To Go.Proofs.Ytdbeohfaaonbjaa.Tq Go.Proofs.Ytdbeohfaaonbjaa.Tk Go.Proofs.Ytdbeohfaaonbjaa.Tz

set_option maxHeartbeats 4000000 in
set_option maxRecDepth 100000 in
theorem walk (a : List Nat) (ci : Int) (ha : isSet a) (w1 : (Lit.int .u8 ci).wf = true) (w : World) :
    Calls Try.prog 4 #[.agg (sv a), .int .u8 ci] w fun e w' => e = .returned (.bool true) ∧ Below w.heap.size w w' := by
  obtain ⟨c, rfl, hc⟩ := wf8 w1
  obtain ⟨sa, hsa⟩ : ∃ s : ByteArray, s = ⟨(bts a).toArray⟩ := ⟨_, rfl⟩
  obtain ⟨S, hS⟩ : ∃ s : ByteArray, s = ⟨(shwQ a (notL a)).toArray⟩ := ⟨_, rfl⟩
  have hN : (byt a).length = sa.size := by rw [← nl_len, hsa, bts_nl]
  have H0 := Lib.hid (fun w => Bytes_any ha w)
  have H1 := Lib.hid (fun w => Has_any ha hc w)
  have H2 := Lib.hid (fun w => rHas_any ha hc w)
  have H3 := Lib.hid (fun w => rBytes_any ha w)
  have H4 := Lib.hid (fun w => Count_any ha w)
  have H5 := Lib.hid (fun w => Show_any ha w)
  have H6 := Lib.hid (fun w => rShow_any ha w)
  rw [← hsa] at H0 H3
  rw [← hS] at H5 H6
  rw [hN] at H4
  generalize has a c = t at *
  have za : sa.size ≤ 256 := by rw [hsa]; exact bts_size a
  obtain ⟨n0, n1, n2, n3, rfl⟩ := four_of ha
  have H4N : Hid ((sv [n0, n1, n2, n3]).size = 4) := Lib.hid rfl
  have HX : Hid (Blk (w.alloc (.cells (sv [n0, n1, n2, n3]) 25)) w.heap.size 25 (sv [n0, n1, n2, n3])) := Lib.hid (Blk.fresh w _ _)
  have HW : Hid (Below w.heap.size w (w.alloc (.cells (sv [n0, n1, n2, n3]) 25))) := Lib.hid (below_alloc _ _)
  clear hsa hS hN w1 ha
  go_enter Try.func4, Try.ntmps4
  go_wp2_with (first | refine wpList_load_row rfl 25 _ rfl w.heap.size rfl _ _ _ _ HX.out Try.underlying25 rfl (fit H4N.out) ?_ | (go_at_call 18; refine (H0.out _).mono ?_; rintro e w3 ⟨rfl, k3⟩; have K0 := Lib.hid (kp.next (W := w) (g := w.heap.size) (a := [n0, n1, n2, n3]) ⟨HX.out, HW.out⟩ k3); clear k3; have HK := Lib.hid (show kp w w3.drew w.heap.size [n0, n1, n2, n3] from ⟨K0.out.b, below_drew K0.out.w⟩); obtain ⟨c0, c1, c2, c3⟩ := cells4 K0.out.b))
  simp only [sv_four] at H1 H2 H3 H4 H5 H6
  have KD := kq_of HK.out
  go_region_held3 (fun u => u.cell? ⟨w.heap.size, 0, none⟩ = some (.int .u64 (n0 : Int)) ∧ u.cell? ⟨w.heap.size, 1, none⟩ = some (.int .u64 (n1 : Int)) ∧ u.cell? ⟨w.heap.size, 2, none⟩ = some (.int .u64 (n2 : Int)) ∧ u.cell? ⟨w.heap.size, 3, none⟩ = some (.int .u64 (n3 : Int)) ∧ kp w u w.heap.size [n0, n1, n2, n3]) (first | exact KD | assumption) (first | (go_at_call 19; refine (H1.out _).mono ?_; rintro e w9 ⟨rfl, k9⟩; have HS9 := kq_next (by first | exact HS9.2.2.2.2 | exact KD.2.2.2.2 | assumption) k9; clear k9) | (go_at_call 20; refine (H2.out _).mono ?_; rintro e w9 ⟨rfl, k9⟩; have HS9 := kq_next (by first | exact HS9.2.2.2.2 | exact KD.2.2.2.2 | assumption) k9; clear k9) | (go_at_call 21; refine (H3.out _).mono ?_; rintro e w9 ⟨rfl, k9⟩; have HS9 := kq_next (by first | exact HS9.2.2.2.2 | exact KD.2.2.2.2 | assumption) k9; clear k9) | (go_at_call 22; refine (H4.out _).mono ?_; rintro e w9 ⟨rfl, k9⟩; have HS9 := kq_next (by first | exact HS9.2.2.2.2 | exact KD.2.2.2.2 | assumption) k9; clear k9) | (go_at_call 23; refine (H5.out _).mono ?_; rintro e w9 ⟨rfl, k9⟩; have HS9 := kq_next (by first | exact HS9.2.2.2.2 | exact KD.2.2.2.2 | assumption) k9; clear k9) | (go_at_call 24; refine (H6.out _).mono ?_; rintro e w9 ⟨rfl, k9⟩; have HS9 := kq_next (by first | exact HS9.2.2.2.2 | exact KD.2.2.2.2 | assumption) k9; clear k9) | (go_at_call 7; refine (known_any _).mono ?_; rintro e w9 ⟨rfl, k9⟩; have HS9 := kq_next (by first | exact HS9.2.2.2.2 | exact KD.2.2.2.2 | assumption) k9; clear k9))
  go_wp2
  go_ret
  exact ⟨rfl, HS9.2.2.2.2.w⟩
end Go.Proofs.Ytdbeohfaaonbjaa.charsetTells
