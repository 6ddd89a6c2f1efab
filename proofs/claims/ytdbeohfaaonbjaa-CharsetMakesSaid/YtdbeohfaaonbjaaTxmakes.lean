/-
  The walk of collimatorlaw14.CharsetMakes.
-/
import Derived.Test.YtdbeohfaaonbjaaTz
namespace Go.Proofs.Ytdbeohfaaonbjaa.charsetMakes
open Go.RowKit Go.Proofs.Ytdbeohfaaonbjaa.Vm Go.Proofs.Ytdbeohfaaonbjaa.Vo Go.Proofs.Ytdbeohfaaonbjaa.Bw Go.Proofs.Ytdbeohfaaonbjaa.Na Go.Proofs.Ytdbeohfaaonbjaa.Tm Go.Proofs.Ytdbeohfaaonbjaa.Ts Go.Proofs.Ytdbeohfaaonbjaa.Ta Go.Proofs.Ytdbeohfaaonbjaa.Tb Go.Proofs.Ytdbeohfaaonbjaa.Tc Go.Proofs.Ytdbeohfaaonbjaa.Td Go.Proofs.Ytdbeohfaaonbjaa.Te Go.Proofs.Ytdbeohfaaonbjaa.Tf Go.Proofs.Ytdbeohfaaonbjaa.Tj Go.Proofs.Ytdbeohfaaonbjaa.Th Go.Proofs.Ytdbeohfaaonbjaa.Ti Go.Proofs.Ytdbeohfaaonbjaa.Tn Go.Proofs.Ytdbeohfaaonbjaa.To Go.Proofs.Ytdbeohfaaonbjaa.Tq Go.Proofs.Ytdbeohfaaonbjaa.Tk Go.Proofs.Ytdbeohfaaonbjaa.Tz

/-- What the calls keep. -/
structure kept2 (W w : World) (x y : Nat) (ga gb : Nat) (a b : List Nat) : Prop where
  e : Blk w W.heap.size 22 #[.int .u8 (x : Int), .int .u8 (y : Int)]
  a : Blk w ga 25 (sv a)
  b : Blk w gb 25 (sv b)
  w : Below W.heap.size W w
theorem kept2.next {W w w' : World} {x y ga gb : Nat} {a b : List Nat} (h : kept2 W w x y ga gb a b) (k : Below w.heap.size w w') : kept2 W w' x y ga gb a b := ⟨h.e.below k, h.a.below k, h.b.below k, h.w.trans (k.mono h.w.size)⟩

theorem kq2_of {w u : World} {x y ga gb x0 x1 x2 x3 u0 u1 u2 u3 : Nat} (h : kept2 w u x y ga gb [x0, x1, x2, x3] [u0, u1, u2, u3]) : u.cell? ⟨w.heap.size, 0, none⟩ = some (.int .u8 (x : Int)) ∧ u.cell? ⟨w.heap.size, 1, none⟩ = some (.int .u8 (y : Int)) ∧ u.cell? ⟨ga, 0, none⟩ = some (.int .u64 (x0 : Int)) ∧ u.cell? ⟨ga, 1, none⟩ = some (.int .u64 (x1 : Int)) ∧ u.cell? ⟨ga, 2, none⟩ = some (.int .u64 (x2 : Int)) ∧ u.cell? ⟨ga, 3, none⟩ = some (.int .u64 (x3 : Int)) ∧ u.cell? ⟨gb, 0, none⟩ = some (.int .u64 (u0 : Int)) ∧ u.cell? ⟨gb, 1, none⟩ = some (.int .u64 (u1 : Int)) ∧ u.cell? ⟨gb, 2, none⟩ = some (.int .u64 (u2 : Int)) ∧ u.cell? ⟨gb, 3, none⟩ = some (.int .u64 (u3 : Int)) ∧ kept2 w u x y ga gb [x0, x1, x2, x3] [u0, u1, u2, u3] :=
  ⟨h.e.cell 0, h.e.cell 1, h.a.cell 0, h.a.cell 1, h.a.cell 2, h.a.cell 3, h.b.cell 0, h.b.cell 1, h.b.cell 2, h.b.cell 3, h⟩

set_option maxHeartbeats 4000000 in
set_option maxRecDepth 100000 in
theorem walk (s : ByteArray) (x' y' : Int) (a b : List Nat) (hs : s.size ≤ maxLen) (w1 : (Lit.int .u8 x').wf = true) (w2 : (Lit.int .u8 y').wf = true) (ha : isSet a) (hb : isSet b) (w : World) :
    Calls Try.prog 3 #[.string s, .agg #[.int .u8 x', .int .u8 y'], .agg (sv (a ++ b))] w fun e w' => e = .returned (.bool true) ∧ Below w.heap.size w w' := by
  obtain ⟨x, rfl, hx⟩ := wf8 w1
  obtain ⟨y, rfl, hy⟩ := wf8 w2
  obtain ⟨hz, hsz⟩ := zero_of_info infoS
  rw [sv_zero] at hz
  have hs9 : s.size ≤ 9223372036854775807 := hs
  have H1 := Lib.hid (fun w => Of_any s w hs9)
  have H2 := Lib.hid (fun w => rOf_any s w hs9)
  have H3 := Lib.hid (fun w => Range_any hx hy w)
  have H4 := Lib.hid (fun w => rRange_any hx hy w)
  have H5 := Lib.hid (fun w => Not_any ha w)
  have H6 := Lib.hid (fun w => rNot_any ha w)
  have H7 := Lib.hid (fun w => Or_any ha hb w)
  have H8 := Lib.hid (fun w => rOr_any ha hb w)
  have H9 := Lib.hid (fun w => And_any ha hb w)
  have H10 := Lib.hid (fun w => rAnd_any ha hb w)
  have q1 := fun w => eq_sv (ofS_set s.data.toList) rfl w
  have q2 := fun w => eq_sv (frm_set x (y + 1)) rfl w
  have q3 := fun w => eq_sv (notL_set ha) rfl w
  have q4 := fun w => eq_sv (orL_set ha hb) rfl w
  have q5 := fun w => eq_sv (andL_set ha hb) rfl w
  generalize sv (ofS s.data.toList) = z1 at *
  generalize sv (frm x (y + 1)) = z2 at *
  generalize sv (notL a) = z3 at *
  generalize sv (orL a b) = z4 at *
  generalize sv (andL a b) = z5 at *
  obtain ⟨x0, x1, x2, x3, rfl⟩ := four_of ha
  obtain ⟨u0, u1, u2, u3, rfl⟩ := four_of hb
  have e8 : sv ([x0, x1, x2, x3] ++ [u0, u1, u2, u3]) = #[.int .u64 (x0 : Int), .int .u64 (x1 : Int), .int .u64 (x2 : Int), .int .u64 (x3 : Int), .int .u64 (u0 : Int), .int .u64 (u1 : Int), .int .u64 (u2 : Int), .int .u64 (u3 : Int)] := rfl
  rw [e8]
  simp only [sv_four] at H5 H6 H7 H8 H9 H10
  clear e8 w1 w2 hs ha hb hsz
  obtain ⟨W2, hW2⟩ : ∃ W2, W2 = (w.alloc (.cells #[.int .u8 (x : Int), .int .u8 (y : Int)] 22)).alloc (.cells #[.int .u64 (x0 : Int), .int .u64 (x1 : Int), .int .u64 (x2 : Int), .int .u64 (x3 : Int), .int .u64 (u0 : Int), .int .u64 (u1 : Int), .int .u64 (u2 : Int), .int .u64 (u3 : Int)] 26) := ⟨_, rfl⟩
  have b1 : Blk W2 w.heap.size 22 #[.int .u8 (x : Int), .int .u8 (y : Int)] := by rw [hW2]; exact (Blk.fresh w _ _).below (below_alloc _ _)
  have b2 : Blk W2 (w.heap.size + 1) 26 #[.int .u64 (x0 : Int), .int .u64 (x1 : Int), .int .u64 (x2 : Int), .int .u64 (x3 : Int), .int .u64 (u0 : Int), .int .u64 (u1 : Int), .int .u64 (u2 : Int), .int .u64 (u3 : Int)] := by
    have := Blk.fresh (w.alloc (.cells #[.int .u8 (x : Int), .int .u8 (y : Int)] 22)) 26 #[.int .u64 (x0 : Int), .int .u64 (x1 : Int), .int .u64 (x2 : Int), .int .u64 (x3 : Int), .int .u64 (u0 : Int), .int .u64 (u1 : Int), .int .u64 (u2 : Int), .int .u64 (u3 : Int)]
    rw [size_alloc] at this; rw [hW2]; exact this
  have b3 : Below w.heap.size w W2 := by rw [hW2]; exact grows (below_alloc _ _) (below_alloc _ _)
  have s2 : W2.heap.size = w.heap.size + 1 + 1 := by rw [hW2, size_alloc, size_alloc]
  have b4 := Blk.fresh W2 25 (sv zero)
  rw [s2] at b4
  obtain ⟨W3, hW3⟩ : ∃ W3, W3 = (W2.alloc (.cells (sv zero) 25)).setRow (w.heap.size + 1 + 1) (sv [x0, x1, x2, x3]) := ⟨_, rfl⟩
  have e1 : Blk W3 w.heap.size 22 #[.int .u8 (x : Int), .int .u8 (y : Int)] := by rw [hW3]; exact Blk_other (b1.below (below_alloc _ _)) (by omega)
  have e2 : Blk W3 (w.heap.size + 1) 26 #[.int .u64 (x0 : Int), .int .u64 (x1 : Int), .int .u64 (x2 : Int), .int .u64 (x3 : Int), .int .u64 (u0 : Int), .int .u64 (u1 : Int), .int .u64 (u2 : Int), .int .u64 (u3 : Int)] := by rw [hW3]; exact Blk_other (b2.below (below_alloc _ _)) (by omega)
  have e3 : Blk W3 (w.heap.size + 1 + 1) 25 (sv [x0, x1, x2, x3]) := by rw [hW3]; exact Blk_row b4
  have s3 : W3.heap.size = w.heap.size + 1 + 1 + 1 := by rw [hW3, setRow_size, size_alloc, s2]
  have e4 : Below w.heap.size w W3 := by rw [hW3]; exact Below_setRow (grows b3 (below_alloc _ _)) (by omega) _
  have b5 := Blk.fresh W3 25 (sv zero)
  obtain ⟨W4, hW4⟩ : ∃ W4, W4 = (W3.alloc (.cells (sv zero) 25)).setRow W3.heap.size (sv [u0, u1, u2, u3]) := ⟨_, rfl⟩
  have K4 : Hid (kept2 w W4 x y (w.heap.size + 1 + 1) W3.heap.size [x0, x1, x2, x3] [u0, u1, u2, u3]) := Lib.hid (by
    rw [hW4]
    exact ⟨Blk_other (e1.below (below_alloc _ _)) (by omega), Blk_other (e3.below (below_alloc _ _)) (by omega), Blk_row b5, Below_setRow (grows e4 (below_alloc _ _)) (by omega) _⟩)
  have B4 := Lib.hid b4
  have B5 := Lib.hid b5
  have d4 : W3.cell? ⟨w.heap.size + 1, 4, none⟩ = some (.int .u64 (u0 : Int)) := e2.cell 4
  have d5 : W3.cell? ⟨w.heap.size + 1, 5, none⟩ = some (.int .u64 (u1 : Int)) := e2.cell 5
  have d6 : W3.cell? ⟨w.heap.size + 1, 6, none⟩ = some (.int .u64 (u2 : Int)) := e2.cell 6
  have d7 : W3.cell? ⟨w.heap.size + 1, 7, none⟩ = some (.int .u64 (u3 : Int)) := e2.cell 7
  have S3 := Lib.hid s3
  have HW2 := Lib.hid hW2
  have HW3 := Lib.hid hW3
  have HW4 := Lib.hid hW4
  clear b1 b2 b3 b4 b5 e1 e2 e3 e4 s2 s3 hW2 hW3 hW4
  by_cases h2000 : 2000 < s.size
  · have h2' : (2000 : Int) < (s.size : Int) := by omega
    go_enter Try.func3, Try.ntmps3
    go_wp2_with (first | (rw [← HW2.out]; refine wpList_store_row rfl 25 _ _ rfl (w.heap.size + 1 + 1) (sv [x0, x1, x2, x3]) rfl rfl _ _ B4.out (fit (show (sv [x0, x1, x2, x3]).size = 4 from rfl)) (Eq.trans (sv4 zero_set) (Eq.symm (show (sv [x0, x1, x2, x3]).size = 4 from rfl))) (sv_one [x0, x1, x2, x3]) ?_; rw [← HW3.out]) | (refine wpList_store_row rfl 25 _ _ rfl W3.heap.size (sv [u0, u1, u2, u3]) rfl rfl _ _ B5.out (fit (show (sv [u0, u1, u2, u3]).size = 4 from rfl)) (Eq.trans (sv4 zero_set) (Eq.symm (show (sv [u0, u1, u2, u3]).size = 4 from rfl))) (sv_one [u0, u1, u2, u3]) ?_; rw [← HW4.out]) | (go_at_call 7; refine (known_any _).mono ?_; rintro e w9 ⟨rfl, k9⟩; have K9 := Lib.hid (K4.out.next k9); clear k9))
    go_ret
    exact ⟨rfl, K9.out.w⟩
  · have h2' : ¬ (2000 : Int) < (s.size : Int) := by omega
    go_enter Try.func3, Try.ntmps3
    go_wp2_with (first | (rw [← HW2.out]; refine wpList_store_row rfl 25 _ _ rfl (w.heap.size + 1 + 1) (sv [x0, x1, x2, x3]) rfl rfl _ _ B4.out (fit (show (sv [x0, x1, x2, x3]).size = 4 from rfl)) (Eq.trans (sv4 zero_set) (Eq.symm (show (sv [x0, x1, x2, x3]).size = 4 from rfl))) (sv_one [x0, x1, x2, x3]) ?_; rw [← HW3.out]) | (refine wpList_store_row rfl 25 _ _ rfl W3.heap.size (sv [u0, u1, u2, u3]) rfl rfl _ _ B5.out (fit (show (sv [u0, u1, u2, u3]).size = 4 from rfl)) (Eq.trans (sv4 zero_set) (Eq.symm (show (sv [u0, u1, u2, u3]).size = 4 from rfl))) (sv_one [u0, u1, u2, u3]) ?_; rw [← HW4.out]))
    have KD := kq2_of (show kept2 w W4.drew x y (w.heap.size + 1 + 1) W3.heap.size [x0, x1, x2, x3] [u0, u1, u2, u3] from ⟨K4.out.e, K4.out.a, K4.out.b, below_drew K4.out.w⟩)
    clear d4 d5 d6 d7 h2000 h2'
    obtain ⟨gb, hgb⟩ : ∃ gb, gb = W3.heap.size := ⟨_, rfl⟩
    rw [← hgb] at KD ⊢
    clear hgb hz
    go_region_held3 (fun u => u.cell? ⟨w.heap.size, 0, none⟩ = some (.int .u8 (x : Int)) ∧ u.cell? ⟨w.heap.size, 1, none⟩ = some (.int .u8 (y : Int)) ∧ u.cell? ⟨w.heap.size + 1 + 1, 0, none⟩ = some (.int .u64 (x0 : Int)) ∧ u.cell? ⟨w.heap.size + 1 + 1, 1, none⟩ = some (.int .u64 (x1 : Int)) ∧ u.cell? ⟨w.heap.size + 1 + 1, 2, none⟩ = some (.int .u64 (x2 : Int)) ∧ u.cell? ⟨w.heap.size + 1 + 1, 3, none⟩ = some (.int .u64 (x3 : Int)) ∧ u.cell? ⟨gb, 0, none⟩ = some (.int .u64 (u0 : Int)) ∧ u.cell? ⟨gb, 1, none⟩ = some (.int .u64 (u1 : Int)) ∧ u.cell? ⟨gb, 2, none⟩ = some (.int .u64 (u2 : Int)) ∧ u.cell? ⟨gb, 3, none⟩ = some (.int .u64 (u3 : Int)) ∧ kept2 w u x y (w.heap.size + 1 + 1) gb [x0, x1, x2, x3] [u0, u1, u2, u3]) (first | exact KD | assumption) (first | (go_at_call 8; refine (H1.out _).mono ?_; rintro e w9 ⟨rfl, k9⟩; have HS9 := kq2_of ((by first | exact HS9.2.2.2.2.2.2.2.2.2.2 | exact KD.2.2.2.2.2.2.2.2.2.2 | assumption : kept2 w _ x y (w.heap.size + 1 + 1) gb [x0, x1, x2, x3] [u0, u1, u2, u3]).next k9); clear k9) | (go_at_call 9; refine (H2.out _).mono ?_; rintro e w9 ⟨rfl, k9⟩; have HS9 := kq2_of ((by first | exact HS9.2.2.2.2.2.2.2.2.2.2 | exact KD.2.2.2.2.2.2.2.2.2.2 | assumption : kept2 w _ x y (w.heap.size + 1 + 1) gb [x0, x1, x2, x3] [u0, u1, u2, u3]).next k9); clear k9) | (go_at_call 10; refine (H3.out _).mono ?_; rintro e w9 ⟨rfl, k9⟩; have HS9 := kq2_of ((by first | exact HS9.2.2.2.2.2.2.2.2.2.2 | exact KD.2.2.2.2.2.2.2.2.2.2 | assumption : kept2 w _ x y (w.heap.size + 1 + 1) gb [x0, x1, x2, x3] [u0, u1, u2, u3]).next k9); clear k9) | (go_at_call 11; refine (H4.out _).mono ?_; rintro e w9 ⟨rfl, k9⟩; have HS9 := kq2_of ((by first | exact HS9.2.2.2.2.2.2.2.2.2.2 | exact KD.2.2.2.2.2.2.2.2.2.2 | assumption : kept2 w _ x y (w.heap.size + 1 + 1) gb [x0, x1, x2, x3] [u0, u1, u2, u3]).next k9); clear k9) | (go_at_call 12; refine (H5.out _).mono ?_; rintro e w9 ⟨rfl, k9⟩; have HS9 := kq2_of ((by first | exact HS9.2.2.2.2.2.2.2.2.2.2 | exact KD.2.2.2.2.2.2.2.2.2.2 | assumption : kept2 w _ x y (w.heap.size + 1 + 1) gb [x0, x1, x2, x3] [u0, u1, u2, u3]).next k9); clear k9) | (go_at_call 13; refine (H6.out _).mono ?_; rintro e w9 ⟨rfl, k9⟩; have HS9 := kq2_of ((by first | exact HS9.2.2.2.2.2.2.2.2.2.2 | exact KD.2.2.2.2.2.2.2.2.2.2 | assumption : kept2 w _ x y (w.heap.size + 1 + 1) gb [x0, x1, x2, x3] [u0, u1, u2, u3]).next k9); clear k9) | (go_at_call 14; refine (H7.out _).mono ?_; rintro e w9 ⟨rfl, k9⟩; have HS9 := kq2_of ((by first | exact HS9.2.2.2.2.2.2.2.2.2.2 | exact KD.2.2.2.2.2.2.2.2.2.2 | assumption : kept2 w _ x y (w.heap.size + 1 + 1) gb [x0, x1, x2, x3] [u0, u1, u2, u3]).next k9); clear k9) | (go_at_call 15; refine (H8.out _).mono ?_; rintro e w9 ⟨rfl, k9⟩; have HS9 := kq2_of ((by first | exact HS9.2.2.2.2.2.2.2.2.2.2 | exact KD.2.2.2.2.2.2.2.2.2.2 | assumption : kept2 w _ x y (w.heap.size + 1 + 1) gb [x0, x1, x2, x3] [u0, u1, u2, u3]).next k9); clear k9) | (go_at_call 16; refine (H9.out _).mono ?_; rintro e w9 ⟨rfl, k9⟩; have HS9 := kq2_of ((by first | exact HS9.2.2.2.2.2.2.2.2.2.2 | exact KD.2.2.2.2.2.2.2.2.2.2 | assumption : kept2 w _ x y (w.heap.size + 1 + 1) gb [x0, x1, x2, x3] [u0, u1, u2, u3]).next k9); clear k9) | (go_at_call 17; refine (H10.out _).mono ?_; rintro e w9 ⟨rfl, k9⟩; have HS9 := kq2_of ((by first | exact HS9.2.2.2.2.2.2.2.2.2.2 | exact KD.2.2.2.2.2.2.2.2.2.2 | assumption : kept2 w _ x y (w.heap.size + 1 + 1) gb [x0, x1, x2, x3] [u0, u1, u2, u3]).next k9); clear k9) | (go_at_call 7; refine (known_any _).mono ?_; rintro e w9 ⟨rfl, k9⟩; have HS9 := kq2_of ((by first | exact HS9.2.2.2.2.2.2.2.2.2.2 | exact KD.2.2.2.2.2.2.2.2.2.2 | assumption : kept2 w _ x y (w.heap.size + 1 + 1) gb [x0, x1, x2, x3] [u0, u1, u2, u3]).next k9); clear k9))
    go_wp2
    go_ret
    exact ⟨rfl, HS9.2.2.2.2.2.2.2.2.2.2.w⟩
end Go.Proofs.Ytdbeohfaaonbjaa.charsetMakes
