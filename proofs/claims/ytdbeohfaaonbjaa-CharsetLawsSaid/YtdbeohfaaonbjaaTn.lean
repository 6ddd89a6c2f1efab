/-
  Show: a set as it is shown.
  Conditions: as each theorem says.
-/
import Derived.Test.YtdbeohfaaonbjaaTi
namespace Go.Proofs.Ytdbeohfaaonbjaa.Tn
open Go.RowKit Go.PlainAid Go.Proofs.Ytdbeohfaaonbjaa.Vm Go.Proofs.Ytdbeohfaaonbjaa.Vo Go.Proofs.Ytdbeohfaaonbjaa.Bw Go.Proofs.Ytdbeohfaaonbjaa.Ba Go.Proofs.Ytdbeohfaaonbjaa.Na Go.Proofs.Ytdbeohfaaonbjaa.Tm Go.Proofs.Ytdbeohfaaonbjaa.Ts Go.Proofs.Ytdbeohfaaonbjaa.Ta Go.Proofs.Ytdbeohfaaonbjaa.Tb Go.Proofs.Ytdbeohfaaonbjaa.Tc Go.Proofs.Ytdbeohfaaonbjaa.Td Go.Proofs.Ytdbeohfaaonbjaa.Te Go.Proofs.Ytdbeohfaaonbjaa.Tf Go.Proofs.Ytdbeohfaaonbjaa.Tj Go.Proofs.Ytdbeohfaaonbjaa.Tg Go.Proofs.Ytdbeohfaaonbjaa.Th Go.Proofs.Ytdbeohfaaonbjaa.Ti

theorem shw_one {a : List Nat} {x : Nat} (h : byt a = [x]) : shwQ a (notL a) = nota x := by unfold shwQ; rw [h]
theorem shw_big {a : List Nat} (h : (byt a).length ≠ 1) (h2 : 128 < (byt a).length) : shwQ a (notL a) = 91 :: 94 :: (lstQ (byt (notL a)) ++ [93]) := by
  unfold shwQ
  split
  · next e => rw [e] at h; exact absurd rfl h
  · rw [if_pos h2]
theorem shw_low {a : List Nat} (h : (byt a).length ≠ 1) (h2 : ¬ 128 < (byt a).length) : shwQ a (notL a) = 91 :: (lstQ (byt a) ++ [93]) := by
  unfold shwQ
  split
  · next e => rw [e] at h; exact absurd rfl h
  · rw [if_neg h2]
theorem only_one {a : List Nat} {x : Nat} (h : byt a = [x]) : onlyR a = .tuple #[.int .u8 (x : Int), .bool true] := by unfold onlyR; rw [h]
theorem only_not {a : List Nat} (h : (byt a).length ≠ 1) : onlyR a = .tuple #[.int .u8 0, .bool false] := by
  unfold onlyR
  split
  · next e => rw [e] at h; exact absurd rfl h
  · rfl
theorem below_size (w : World) (z : Array Value) : (w.alloc (.cells z 25)).heap.size = w.heap.size + 1 := size_alloc _ _

theorem ob_lit1 {w : World} {base : Nat} (hb : base ≤ w.heap.size) : ob base (w.alloc (.cells #[Value.int .u8 91] 5)) (.slice (some ⟨w.heap.size, 0, none⟩) 1 1) [91] := ob_lit (c := [91]) (by decide) hb
/-- A row of bytes stays where a set is stored. -/
theorem ob_row {w : World} {base g : Nat} {v : Value} {l : List UInt8} {z z' : Array Value} (h : ob base w v l) (hb : Blk w g 25 z) : ob base (w.setRow g z') v l :=
  own_only (S := fun i => i = g) h ⟨rfl, rfl, rfl, by rw [setRow_size]; exact Nat.le_refl _, fun k _ hk => setRow_other w g k z' hk⟩ (fun i hi => own_apart h hb (by decide) i hi)
theorem size_row {w : World} {g : Nat} {z : Array Value} : (w.setRow g z).heap.size = w.heap.size := setRow_size _ _ _

set_option maxHeartbeats 2000000 in
set_option maxRecDepth 100000 in
theorem Show_any {a : List Nat} (ha : isSet a) (w : World) :
    Calls Try.prog 23 #[.agg (sv a)] w fun e w' => e = .returned (.string ⟨(shwQ a (notL a)).toArray⟩) ∧ Below w.heap.size w w' := by
  have HX : Hid (Blk (w.alloc (.cells (sv a) 25)) w.heap.size 25 (sv a)) := Lib.hid (Blk.fresh w _ _)
  have HW : Hid (Below w.heap.size w (w.alloc (.cells (sv a) 25))) := Lib.hid (below_alloc _ _)
  have HS : Hid ((w.alloc (.cells (sv a) 25)).heap.size = w.heap.size + 1) := Lib.hid (size_alloc _ _)
  have H4 : Hid ((sv a).size = 4) := Lib.hid (sv4 ha)
  obtain ⟨R, hR⟩ : ∃ R, R = shwQ a (notL a) := ⟨_, rfl⟩
  rw [← hR]
  have HOn := Lib.hid (fun w => only_any ha w)
  have HCt := Lib.hid (fun w => Count_any ha w)
  by_cases h1 : (byt a).length = 1
  · obtain ⟨x, hx⟩ : ∃ x, byt a = [x] := List.length_eq_one_iff.1 h1
    have hx256 : x < 256 := (mem_byt.1 (by rw [hx]; simp : x ∈ byt a)).1
    have HR : Hid (R = nota x) := Lib.hid (by rw [hR, shw_one hx])
    rw [only_one hx] at HOn
    clear hR h1 hx HCt
    go_enter Try.func23, Try.ntmps23
    go_wp2_with (first | refine wpList_load_row rfl 25 _ rfl w.heap.size rfl _ _ _ _ HX.out Try.underlying25 rfl (fit H4.out) ?_ | (go_at_call 28; refine (HOn.out _).mono ?_; rintro e w1 ⟨rfl, k1⟩; have K1 := Lib.hid k1; clear k1) | (go_at_call 29; refine (appendByte_any (base := w.heap.size + 1) (W := w1) (Below.refl _ _) (by rw [← HS.out]; exact K1.out.size) (ob_nil _ _) (by simp) hx256).mono ?_; rintro e w2 ⟨v2, rfl, h2, k2⟩; have H2 := Lib.hid h2; have K2 := Lib.hid k2; clear h2 k2; have hcv := ob_string H2.out))
    go_ret
    exact ⟨ret_str (by rw [HR.out]), (HW.out.trans (K1.out.mono HW.out.size)).trans (K2.out.mono (by omega))⟩
  · rw [only_not h1] at HOn
    have HBy := Lib.hid (fun w => Bytes_any ha w)
    have HBn := Lib.hid (fun w => Bytes_any (notL_set ha) w)
    have HNo := Lib.hid (fun w => Not_any ha w)
    obtain ⟨N, hN⟩ : ∃ N, N = (byt a).length := ⟨_, rfl⟩
    rw [← hN] at HCt h1
    obtain ⟨sa, hsa⟩ : ∃ s : ByteArray, s = ⟨(bts a).toArray⟩ := ⟨_, rfl⟩
    obtain ⟨sn, hsn⟩ : ∃ s : ByteArray, s = ⟨(bts (notL a)).toArray⟩ := ⟨_, rfl⟩
    have za : sa.size ≤ 256 := by rw [hsa]; exact bts_size a
    have zn : sn.size ≤ 256 := by rw [hsn]; exact bts_size _
    have ca : asc (nl sa) := by rw [hsa, bts_nl]; exact asc_byt a
    have cn : asc (nl sn) := by rw [hsn, bts_nl]; exact asc_byt _
    rw [← hsa] at HBy
    rw [← hsn] at HBn
    have H1L : Hid ([(91 : UInt8)].length ≤ 1000) := Lib.hid (by decide)
    have hone : (#[Value.int .u8 91] : Array Value) = (Bs [91]).toArray := rfl
    have HOne := Lib.hid hone
    clear hone
    by_cases h2 : 128 < N
    · have HR : Hid (R = ([91] ++ [94] ++ lstQ (nl sn)) ++ [93]) := Lib.hid (by
        rw [hR, shw_big (by rw [← hN]; exact h1) (by rw [← hN]; exact h2), hsn, bts_nl]; simp)
      have HLL : Hid (([91] ++ [94] ++ lstQ (nl sn)).length + [(93 : UInt8)].length ≤ 1000000000) := Lib.hid (by
        have := lstQ_le (nl sn)
        rw [nl_len] at this
        simp; omega)
      have HAL := Lib.hid (fun (base : Nat) (W w : World) (HB : Below base W w) (hb : base ≤ W.heap.size) (v : Value) (h : ob base w v ([91] ++ [94])) => appendList_any HB hb h (by decide) zn cn)
      obtain ⟨zN, hzN⟩ : ∃ z, z = sv (notL a) := ⟨_, rfl⟩
      have H4N : Hid (zN.size = 4) := Lib.hid (by rw [hzN, sv4 (notL_set ha)])
      have H1N : Hid (zN.all (·.oneCell') = true) := Lib.hid (by rw [hzN]; exact sv_one _)
      rw [← hzN] at HNo HBn
      clear hR hN hsa hsn hzN HBy h1 za zn ca cn
      generalize sv a = z at *
      go_enter Try.func23, Try.ntmps23
      go_wp2_with (first | refine wpList_load_row rfl 25 _ rfl w.heap.size rfl _ _ _ _ HX.out Try.underlying25 rfl (fit H4.out) ?_ | (go_at_call 28; refine (HOn.out _).mono ?_; rintro e w1 ⟨rfl, k1⟩; have K1 := Lib.hid k1; clear k1; have X1 := Lib.hid ((HX.out.below K1.out).below (below_alloc _ (.cells #[Value.int .u8 91] 5))); have O1 := Lib.hid (ob_lit1 (w := w1) (base := w.heap.size + 1) (by rw [← HS.out]; exact K1.out.size)); have B1 := Lib.hid (grows K1.out (below_alloc w1 (.cells #[Value.int .u8 91] 5)))) | refine wpList_load_row rfl 25 _ rfl w.heap.size rfl _ _ _ _ X1.out Try.underlying25 rfl (fit H4.out) ?_ | (go_at_call 22; refine (HCt.out _).mono ?_; rintro e w2 ⟨rfl, k2⟩; have K2 := Lib.hid k2; clear k2; have X2 := Lib.hid (X1.out.below K2.out); have O2 := Lib.hid (O1.out.below K2.out); have b2 := grows B1.out K2.out; rw [HS.out] at b2; have B2 := Lib.hid b2; clear b2) | (at_builtin; refine wpList_ob rfl _ _ rfl B2.out (by rw [HS.out]; exact Nat.le_refl _) (by rfl) O2.out [94] (by rfl) rfl (by rfl) (by decide) ?_; intro v3 w3 h3 k3; have H3 := Lib.hid h3; have K3 := Lib.hid k3; clear h3 k3; have X3 := Lib.hid (Blk_low HX.out K3.out (by omega))) | refine wpList_load_row rfl 25 _ rfl w.heap.size rfl _ _ _ _ X3.out Try.underlying25 rfl (fit H4.out) ?_ | (go_at_call 12; refine (HNo.out _).mono ?_; rintro e w4 ⟨rfl, k4⟩; have K4 := Lib.hid k4; clear k4; have X4 := Lib.hid (X3.out.below K4.out); have O4 := Lib.hid (ob_row (z' := zN) (H3.out.below K4.out) X4.out); have G4 := Lib.hid (show w.heap.size + 1 ≤ (w4.setRow w.heap.size zN).heap.size by rw [size_row, ← HS.out]; exact Nat.le_trans K3.out.size K4.out.size)) | refine wpList_store_row rfl 25 _ _ rfl w.heap.size zN rfl rfl _ _ X4.out (fit H4N.out) (Eq.trans H4.out (Eq.symm H4N.out)) H1N.out ?_ | refine wpList_load_row rfl 25 _ rfl w.heap.size rfl _ _ _ _ (Blk_row X4.out) Try.underlying25 rfl (fit H4N.out) ?_ | (go_at_call 18; refine (HBn.out _).mono ?_; rintro e w5 ⟨rfl, k5⟩; have K5 := Lib.hid k5; clear k5; have O5 := Lib.hid (O4.out.below K5.out); have B5 := Lib.hid (K5.out.mono G4.out)) | (go_at_call 30; refine (HAL.out _ _ _ B5.out G4.out _ O5.out).mono ?_; rintro e w6 ⟨v6, rfl, h6, k6⟩; have H6 := Lib.hid h6; have K6 := Lib.hid k6; clear h6 k6) | (at_builtin; refine wpList_ob rfl _ _ rfl K6.out G4.out (by rfl) H6.out [93] (by rfl) rfl (by rfl) HLL.out ?_; intro v7 w7 h7 k7; have H7 := Lib.hid h7; have K7 := Lib.hid k7; clear h7 k7; have hcv := ob_string H7.out))
      go_ret
      exact ⟨ret_str (by rw [HR.out]; simp), (Below_setRow ((HW.out.trans (K3.out.mono (by omega))).trans (K4.out.mono (Nat.le_trans HW.out.size K3.out.size))) (Nat.le_refl _) zN).trans (K7.out.mono (by omega))⟩
    · have HR : Hid (R = ([91] ++ lstQ (nl sa)) ++ [93]) := Lib.hid (by
        rw [hR, shw_low (by rw [← hN]; exact h1) (by rw [← hN]; exact h2), hsa, bts_nl]; simp)
      have HLL : Hid (([91] ++ lstQ (nl sa)).length + [(93 : UInt8)].length ≤ 1000000000) := Lib.hid (by
        have := lstQ_le (nl sa)
        rw [nl_len] at this
        simp; omega)
      have HAL := Lib.hid (fun (base : Nat) (W w : World) (HB : Below base W w) (hb : base ≤ W.heap.size) (v : Value) (h : ob base w v [91]) => appendList_any HB hb h (by decide) za ca)
      clear hR hN hsa hsn HBn HNo h1 za zn ca cn
      generalize sv a = z at *
      go_enter Try.func23, Try.ntmps23
      go_wp2_with (first | refine wpList_load_row rfl 25 _ rfl w.heap.size rfl _ _ _ _ HX.out Try.underlying25 rfl (fit H4.out) ?_ | (go_at_call 28; refine (HOn.out _).mono ?_; rintro e w1 ⟨rfl, k1⟩; have K1 := Lib.hid k1; clear k1; have X1 := Lib.hid ((HX.out.below K1.out).below (below_alloc _ (.cells #[Value.int .u8 91] 5))); have O1 := Lib.hid (ob_lit1 (w := w1) (base := w.heap.size + 1) (by rw [← HS.out]; exact K1.out.size)); have B1 := Lib.hid (grows K1.out (below_alloc w1 (.cells #[Value.int .u8 91] 5)))) | refine wpList_load_row rfl 25 _ rfl w.heap.size rfl _ _ _ _ X1.out Try.underlying25 rfl (fit H4.out) ?_ | (go_at_call 22; refine (HCt.out _).mono ?_; rintro e w2 ⟨rfl, k2⟩; have K2 := Lib.hid k2; clear k2; have X2 := Lib.hid (X1.out.below K2.out); have O2 := Lib.hid (O1.out.below K2.out); have b2 := grows B1.out K2.out; rw [HS.out] at b2; have B2 := Lib.hid b2; clear b2) | refine wpList_load_row rfl 25 _ rfl w.heap.size rfl _ _ _ _ X2.out Try.underlying25 rfl (fit H4.out) ?_ | (go_at_call 18; refine (HBy.out _).mono ?_; rintro e w5 ⟨rfl, k5⟩; have K5 := Lib.hid k5; clear k5; have O5 := Lib.hid (O2.out.below K5.out); have b5 := B2.out.trans (K5.out.mono (by rw [← HS.out]; exact B2.out.size)); have B5 := Lib.hid b5; clear b5; have G4 := Lib.hid (show w.heap.size + 1 ≤ (w.alloc (.cells z 25)).heap.size by rw [HS.out]; exact Nat.le_refl _)) | (go_at_call 30; refine (HAL.out _ _ _ B5.out G4.out _ O5.out).mono ?_; rintro e w6 ⟨v6, rfl, h6, k6⟩; have H6 := Lib.hid h6; have K6 := Lib.hid k6; clear h6 k6) | (at_builtin; refine wpList_ob rfl _ _ rfl K6.out G4.out (by rfl) H6.out [93] (by rfl) rfl (by rfl) HLL.out ?_; intro v7 w7 h7 k7; have H7 := Lib.hid h7; have K7 := Lib.hid k7; clear h7 k7; have hcv := ob_string H7.out))
      go_ret
      exact ⟨ret_str (by rw [HR.out]; simp), HW.out.trans (K7.out.mono (by omega))⟩
end Go.Proofs.Ytdbeohfaaonbjaa.Tn
