/-
  What known() answers: true.
  Conditions: none.
-/
import Derived.Test.YtdbeohfaaonbjaaTn
import Derived.Test.YtdbeohfaaonbjaaLw
namespace Go.Proofs.Ytdbeohfaaonbjaa.Tk
open Go.RowKit Go.PlainAid Go.Proofs.Ytdbeohfaaonbjaa.Vm Go.Proofs.Ytdbeohfaaonbjaa.Vo Go.Proofs.Ytdbeohfaaonbjaa.Bw Go.Proofs.Ytdbeohfaaonbjaa.Ba Go.Proofs.Ytdbeohfaaonbjaa.Na Go.Proofs.Ytdbeohfaaonbjaa.Tm Go.Proofs.Ytdbeohfaaonbjaa.Ts Go.Proofs.Ytdbeohfaaonbjaa.Ta Go.Proofs.Ytdbeohfaaonbjaa.Tb Go.Proofs.Ytdbeohfaaonbjaa.Tc Go.Proofs.Ytdbeohfaaonbjaa.Td Go.Proofs.Ytdbeohfaaonbjaa.Te Go.Proofs.Ytdbeohfaaonbjaa.Tf Go.Proofs.Ytdbeohfaaonbjaa.Tj Go.Proofs.Ytdbeohfaaonbjaa.Tg Go.Proofs.Ytdbeohfaaonbjaa.Th Go.Proofs.Ytdbeohfaaonbjaa.Ti Go.Proofs.Ytdbeohfaaonbjaa.Tn

/-- A set that is kept while others are called. -/
structure kp (W w : World) (g : Nat) (a : List Nat) : Prop where
  b : Blk w g 25 (sv a)
  w : Below W.heap.size W w
theorem kp.next {W w w' : World} {g : Nat} {a : List Nat} (h : kp W w g a) (k : Below w.heap.size w w') : kp W w' g a := ⟨h.b.below k, h.w.trans (k.mono h.w.size)⟩

def N10 : List Nat := notL (ofS [10])
theorem N10_set : isSet N10 := notL_set (ofS_set _)
theorem N10_is : N10 = [18446744073709550591, 18446744073709551615, 18446744073709551615, 18446744073709551615] := by decide +kernel
theorem b97 : byt (ofS [97]) = [97] := by decide +kernel
theorem bae : byt (frm 97 102) = [97, 98, 99, 100, 101] := by decide +kernel
theorem babc : byt (ofS [99, 97, 98]) = [97, 98, 99] := by decide +kernel
theorem bnone : byt zero = [] := by decide +kernel
theorem bN : (byt N10).length = 255 := by decide +kernel
theorem bNN : byt (notL N10) = [10] := by decide +kernel
theorem hN120 : has N10 120 = true := by decide +kernel
theorem hN10 : has N10 10 = false := by decide +kernel
theorem s97 : shwQ (ofS [97]) (notL (ofS [97])) = [97] := by rw [shw_one b97]; decide
theorem sae : shwQ (frm 97 102) (notL (frm 97 102)) = [91, 97, 45, 101, 93] := by
  rw [shw_low (by rw [bae]; decide) (by rw [bae]; decide), bae, lstQ_run (by decide), show runF 97 [98, 99, 100, 101] = 4 by decide]
  show 91 :: (nota 97 ++ 45 :: (nota 101 ++ lstQ []) ++ [93]) = _
  rw [lstQ_nil]; decide
theorem sN : shwQ N10 (notL N10) = [91, 94, 92, 110, 93] := by
  rw [shw_big (by rw [bN]; decide) (by rw [bN]; decide), bNN, lstQ_one (by decide), lstQ_nil]; decide
theorem snone : shwQ zero (notL zero) = [91, 93] := by
  rw [shw_low (by rw [bnone]; decide) (by rw [bnone]; decide), bnone, lstQ_nil]; decide
theorem built0 (w : World) : (Instr.build 25 #[]).run Try.prog w = .ok (.agg (sv zero)) w := run_build w 25 _ _ (by kernel_rfl)

set_option maxHeartbeats 4000000 in
set_option maxRecDepth 100000 in
theorem known_any (w : World) : Calls Try.prog 7 #[] w fun e w' => e = .returned (.bool true) ∧ Below w.heap.size w w' := by
  obtain ⟨hz, hsz⟩ := zero_of_info infoS
  rw [sv_zero] at hz
  have hbu := built0
  have C1 := Lib.hid (fun w => Of_any ⟨#[10]⟩ w (by decide))
  have C2 := Lib.hid (fun w => Not_any (ofS_set [10]) w)
  have C3 := Lib.hid (fun w => Of_any ⟨#[97]⟩ w (by decide))
  have C4 := Lib.hid (fun w => Show_any (ofS_set [97]) w)
  have C5 : Hid (∀ w, Calls Try.prog 10 #[.int .u8 97, .int .u8 101] w fun e w' => e = .returned (.agg (sv (frm 97 (101 + 1)))) ∧ Below w.heap.size w w') := Lib.hid (fun w => Range_any (x := 97) (y := 101) (by decide) (by decide) w)
  have C6 := Lib.hid (fun w => Show_any (frm_set 97 102) w)
  have C7 := Lib.hid (fun w => Show_any N10_set w)
  have C9 := Lib.hid (fun w => Of_any ⟨#[99, 97, 98]⟩ w (by decide))
  have C10 := Lib.hid (fun w => Bytes_any (ofS_set [99, 97, 98]) w)
  have C13 := Lib.hid (fun w => Show_any zero_set w)
  rw [s97] at C4
  rw [sae] at C6
  rw [sN] at C7
  rw [snone] at C13
  have C8 : Hid (∀ w, Calls Try.prog 22 #[.agg (sv N10)] w fun e w' => e = .returned (.int .i64 255) ∧ Below w.heap.size w w') := Lib.hid (fun w => by have := Count_any N10_set w; rw [bN] at this; exact this)
  rw [show bts (ofS [99, 97, 98]) = [97, 98, 99] by unfold bts; rw [babc]; rfl] at C10
  have C11 : Hid (∀ w, Calls Try.prog 19 #[.agg (sv N10), .int .u8 120] w fun e w' => e = .returned (.bool true) ∧ Below w.heap.size w w') := Lib.hid (fun w => by have := Has_any (c := 120) N10_set (by decide) w; rw [hN120] at this; exact this)
  have C12 : Hid (∀ w, Calls Try.prog 19 #[.agg (sv N10), .int .u8 10] w fun e w' => e = .returned (.bool false) ∧ Below w.heap.size w w') := Lib.hid (fun w => by have := Has_any (c := 10) N10_set (by decide) w; rw [hN10] at this; exact this)
  have e1 : (⟨#[10]⟩ : ByteArray).data.toList = [10] := rfl
  have e3 : (⟨#[97]⟩ : ByteArray).data.toList = [97] := rfl
  have e9 : (⟨#[99, 97, 98]⟩ : ByteArray).data.toList = [99, 97, 98] := rfl
  rw [e1] at C1
  rw [e3] at C3
  rw [e9] at C9
  rw [show notL (ofS [10]) = N10 from rfl] at C2
  clear e1 e3 e9
  obtain ⟨n0, n1, n2, n3, hn⟩ := four_of N10_set
  rw [hn] at C2 C7 C8 C11 C12
  have H4N : Hid ((sv [n0, n1, n2, n3]).size = 4) := Lib.hid rfl
  have H1N : Hid ((sv [n0, n1, n2, n3]).all (·.oneCell') = true) := Lib.hid (sv_one _)
  simp only [sv_four] at C2 C7 C8 C11 C12
  generalize sv (ofS [10]) = zo at *
  generalize sv (ofS [97]) = za at *
  generalize sv (frm 97 (101 + 1)) = zr at *
  generalize sv (ofS [99, 97, 98]) = zc at *
  clear hn hsz
  go_enter Try.func7, Try.ntmps7
  go_wp2_with (first | (go_at_call 8; (with_reducible refine (C1.out _).mono ?_); rintro e w1 ⟨rfl, k1⟩; have K1 := Lib.hid k1; clear k1) | (go_at_call 12; refine (C2.out _).mono ?_; rintro e w2 ⟨rfl, k2⟩; have K2 := Lib.hid (grows K1.out k2); clear k2; have HB2 := Lib.hid (Blk.fresh w2 25 (sv zero))) | refine wpList_store_row rfl 25 _ _ rfl w2.heap.size (sv [n0, n1, n2, n3]) rfl rfl _ _ HB2.out (fit H4N.out) (Eq.trans (sv4 zero_set) (Eq.symm H4N.out)) H1N.out ?_)
  have HK := Lib.hid (show kp w ((w2.alloc (.cells (sv zero) 25)).setRow w2.heap.size (sv [n0, n1, n2, n3])) w2.heap.size [n0, n1, n2, n3] from ⟨Blk_row HB2.out, Below_setRow (K2.out.alloc (by have := K2.out.size; omega) _) K2.out.size _⟩)
  generalize (w2.alloc (.cells (sv zero) 25)).setRow w2.heap.size (sv [n0, n1, n2, n3]) = w3 at *
  obtain ⟨g, hg⟩ : ∃ g, g = w2.heap.size := ⟨_, rfl⟩
  rw [← hg] at HK ⊢
  clear hg HB2
  refine (C3.out _).mono ?_
  rintro e w4 ⟨rfl, k4⟩
  have HK := Lib.hid (HK.out.next k4)
  clear k4
  obtain ⟨c0, c1, c2, c3⟩ := cells4 HK.out.b
  go_wp2_with (first | (go_at_call 8; (with_reducible refine (C3.out _).mono ?_); rintro e w1 ⟨rfl, k1⟩; have HK := Lib.hid (HK.out.next k1); clear k1; obtain ⟨c0, c1, c2, c3⟩ := cells4 HK.out.b) | (go_at_call 23; (with_reducible refine (C4.out _).mono ?_); rintro e w1 ⟨rfl, k1⟩; have HK := Lib.hid (HK.out.next k1); clear k1; obtain ⟨c0, c1, c2, c3⟩ := cells4 HK.out.b) | (go_at_call 10; (with_reducible refine (C5.out _).mono ?_); rintro e w1 ⟨rfl, k1⟩; have HK := Lib.hid (HK.out.next k1); clear k1; obtain ⟨c0, c1, c2, c3⟩ := cells4 HK.out.b) | (go_at_call 23; (with_reducible refine (C6.out _).mono ?_); rintro e w1 ⟨rfl, k1⟩; have HK := Lib.hid (HK.out.next k1); clear k1; obtain ⟨c0, c1, c2, c3⟩ := cells4 HK.out.b) | (go_at_call 23; (with_reducible refine (C7.out _).mono ?_); rintro e w1 ⟨rfl, k1⟩; have HK := Lib.hid (HK.out.next k1); clear k1; obtain ⟨c0, c1, c2, c3⟩ := cells4 HK.out.b) | (go_at_call 22; (with_reducible refine (C8.out _).mono ?_); rintro e w1 ⟨rfl, k1⟩; have HK := Lib.hid (HK.out.next k1); clear k1; obtain ⟨c0, c1, c2, c3⟩ := cells4 HK.out.b) | (go_at_call 8; (with_reducible refine (C9.out _).mono ?_); rintro e w1 ⟨rfl, k1⟩; have HK := Lib.hid (HK.out.next k1); clear k1; obtain ⟨c0, c1, c2, c3⟩ := cells4 HK.out.b) | (go_at_call 18; (with_reducible refine (C10.out _).mono ?_); rintro e w1 ⟨rfl, k1⟩; have HK := Lib.hid (HK.out.next k1); clear k1; obtain ⟨c0, c1, c2, c3⟩ := cells4 HK.out.b) | (go_at_call 19; (with_reducible refine (C11.out _).mono ?_); rintro e w1 ⟨rfl, k1⟩; have HK := Lib.hid (HK.out.next k1); clear k1; obtain ⟨c0, c1, c2, c3⟩ := cells4 HK.out.b) | (go_at_call 19; (with_reducible refine (C12.out _).mono ?_); rintro e w1 ⟨rfl, k1⟩; have HK := Lib.hid (HK.out.next k1); clear k1; obtain ⟨c0, c1, c2, c3⟩ := cells4 HK.out.b) | (go_at_call 23; (with_reducible refine (C13.out _).mono ?_); rintro e w1 ⟨rfl, k1⟩; have HK := Lib.hid (HK.out.next k1); clear k1; obtain ⟨c0, c1, c2, c3⟩ := cells4 HK.out.b))
  go_ret
  exact ⟨rfl, HK.out.w⟩
end Go.Proofs.Ytdbeohfaaonbjaa.Tk
