/-
  collimatorlaw04.BitrowReads returns true for every string, every place and every script: whatever is read, skipped and looked at, answers and places are the document's.
  Conditions: none.
-/
import Derived.Test.YtceocbfeapdjeaaBk
import Derived.Test.YtceocbfeapdjeaaBq
import Derived.Test.YtceocbfeapdjeaaBy
import Derived.Test.YtceocbfeapdjeaaLw
namespace Go.Proofs.Ytceocbfeapdjeaa.bitrowReads
open Go.ChangeShapes Go.WideShapes Go.ChangeAt Go.RowKit
open Go.ChangeMaps (open_string shut_string)
open Go.Proofs.Ytceocbfeapdjeaa.Lw Go.Proofs.Ytceocbfeapdjeaa.Vm Go.Proofs.Ytceocbfeapdjeaa.Vo Go.Proofs.Ytceocbfeapdjeaa.Bm Go.Proofs.Ytceocbfeapdjeaa.Bo Go.Proofs.Ytceocbfeapdjeaa.Bt Go.Proofs.Ytceocbfeapdjeaa.Bw Go.Proofs.Ytceocbfeapdjeaa.Br Go.Proofs.Ytceocbfeapdjeaa.Bp Go.Proofs.Ytceocbfeapdjeaa.Bs Go.Proofs.Ytceocbfeapdjeaa.Bq Go.Proofs.Ytceocbfeapdjeaa.Bv Go.Proofs.Ytceocbfeapdjeaa.Bx Go.Proofs.Ytceocbfeapdjeaa.Bk Go.Proofs.Ytceocbfeapdjeaa.By


theorem own : ownKnob Try.prog.godebug = none := by kernel_rfl
theorem laidOut : laidOutB Try.prog = true := by kernel_rfl

/-- The script's cells. -/
def cellsOf (w : World) (A : Option Addr) (len : Nat) : Prop := ∀ i, i < len → ∃ (b off : Nat) (x y : Int), A = some ⟨b, off, none⟩ ∧ b < w.heap.size ∧ w.cell? ⟨b, off + i * 2, none⟩ = some (.int .i64 x) ∧ w.cell? ⟨b, off + i * 2 + 1, none⟩ = some (.int .i64 y) ∧ y ≤ 9223372036854775807

set_option maxHeartbeats 4000000 in
set_option maxRecDepth 100000 in
theorem out_of (s : ByteArray) (at_ : Int) (A : Option Addr) (len cap : Nat) (hs : s.size ≤ 10000) (ha : at_ < 0 ∨ 8 * (s.size : Int) < at_) (hl : len ≤ 9223372036854775807) (w : World) :
    Calls Try.prog 3 #[.string s, .int .i64 at_, .slice A len cap] w fun e w' => e = .returned (.bool true) ∧ Below w.heap.size w w' := by
  have hN := Lib.hid (fun w => New_no s at_ w (by omega) ha)
  have hR := Lib.hid (fun w => rNew_no s at_ w (by omega) ha)
  clear ha
  go_enter Try.func3, Try.ntmps3
  go_wp2_with fail
  refine (hN.out _).mono ?_
  rintro e w' ⟨rfl, rfl⟩
  go_wp2_with fail
  refine (hR.out _).mono ?_
  rintro e w1 ⟨g, rfl, b1⟩
  go_wp2
  go_loopw [7, 11] (fun r i wr => r = .pointer none ∧ i = .int .i64 0 ∧ Below w.heap.size w wr) (fun _ _ _ => 0)
  case atStart => exact ⟨rfl, rfl, b1⟩
  case round =>
    obtain ⟨rfl, rfl, b2⟩ := hrel
    rcases Nat.eq_zero_or_pos len with rfl | hlen
    all_goals
      go_wp2_with (go_at_call 9; refine (known_any _).mono ?_; rintro e w' ⟨rfl, hb⟩)
      go_ret
      exact ⟨rfl, b2.trans (hb.mono b2.size)⟩

set_option maxHeartbeats 4000000 in
set_option maxRecDepth 100000 in
theorem within (s : ByteArray) (a0 : Nat) (A : Option Addr) (len cap : Nat) (hs : s.size ≤ 10000) (ha0 : a0 ≤ 8 * s.size) (hl : len ≤ 9223372036854775807) (w : World) (HC : Hid (cellsOf w A len)) :
    Calls Try.prog 3 #[.string s, .int .i64 a0, .slice A len cap] w fun e w' => e = .returned (.bool true) ∧ Below w.heap.size w w' := by
  have hsz : s.size ≤ 281474976710656 := by omega
  go_enter Try.func3, Try.ntmps3
  go_wp2_with fail
  refine (New_ok s a0 _ hsz ha0).mono ?_
  rintro e w1 ⟨g0, rfl, r1, hg0, b1⟩
  have R1 := Lib.hid r1
  have HG0 := Lib.hid hg0
  clear r1 hg0
  go_wp2_with fail
  refine (rNew_ok s a0 _ hsz ha0).mono ?_
  rintro e w2 ⟨h, rfl, r2, hh, b2⟩
  have HH := Lib.hid (show w.heap.size ≤ h by rw [hh]; exact b1.size)
  have Q2 := Lib.hid r2
  have R2 := Lib.hid (R1.out.below b2)
  have B2 := Lib.hid (b1.trans (b2.mono b1.size))
  clear r2 b1 b2 hh R1
  go_wp2
  go_loopw [7, 11] (fun r i wr => ∃ (j g a : Nat), r = .pointer (some ⟨g, 0, none⟩) ∧ i = .int .i64 j ∧ j ≤ len ∧ j ≤ 80 ∧ a ≤ 8 * s.size ∧ Hid (rd wr g s a) ∧ Hid (rr wr h s a) ∧ Hid (w.heap.size ≤ g) ∧ Hid (Below w.heap.size w wr))
    (fun _ i _ => 80 - (intOf i).toNat)
  case atStart => exact ⟨0, g0, a0, rfl, rfl, by omega, by omega, ha0, R2, Q2, Lib.hid (by have := HG0.out; omega), B2⟩
  case round =>
    obtain ⟨j, g, a, rfl, rfl, hj, hj80, ha, R, Q, HG, HB⟩ := hrel
    clear R2 Q2 B2 HG0
    by_cases hjl : j < len
    · by_cases hj8 : j < 80
      · obtain ⟨b, off, x, n, rfl, hbl, cx, cn, hn⟩ := HC.out j hjl
        have k1 : wr.cell? ⟨b, off + j * 2, none⟩ = some (.int .i64 x) := (HB.out.cell (p := ⟨b, off + j * 2, none⟩) hbl).trans cx
        have k2 : wr.cell? ⟨b, off + j * 2 + 1, none⟩ = some (.int .i64 n) := (HB.out.cell (p := ⟨b, off + j * 2 + 1, none⟩) hbl).trans cn
        clear cx cn
        have hgh : g ≠ h := Blk.apart R.out Q.out (by decide)
        rcases (show x = 0 ∨ x = 1 ∨ x = 2 ∨ x = 3 ∨ x = 4 ∨ (¬ x = 0 ∧ ¬ x = 1 ∧ ¬ x = 2 ∧ ¬ x = 3 ∧ ¬ x = 4) by omega) with rfl | rfl | rfl | rfl | rfl | ⟨h0, h1, h2, h3, h4⟩
        · go_wp2_with fail
          refine (Bits_any n R.out hsz ha).mono ?_
          rintro e w3 ⟨rfl, r3, o3⟩
          have R3 := Lib.hid r3
          have Q3 := Lib.hid (Q.out.only o3 (fun e => hgh e.symm))
          have B3 := Lib.hid (o3.below HB.out HB.out.size (fun i hi => by cases hi; exact HG.out))
          clear r3 o3 R Q k1 k2
          go_wp2_with fail
          refine (rBits_any n Q3.out hsz ha).mono ?_
          rintro e w4 ⟨rfl, r4, o4⟩
          have Q9 := Lib.hid r4
          have R9 := Lib.hid (R3.out.only o4 (fun e => hgh e))
          have B9 := Lib.hid (o4.below B3.out B3.out.size (fun i hi => by cases hi; exact HH.out))
          have G9 := HG
          have ha9 : moved s a n ≤ 8 * s.size := moved_le ha
          clear r4 o4 R3 Q3 B3 HB
          have q1 := Q9.out.c1
          go_wp2_with fail
          go_quiet ((first | (go_at_call 23; exact Calls.quiet_of_same (At_any (R9.out.draws _))) | (go_at_call 24; exact Calls.quiet_of (Left_any (R9.out.draws _) hsz ha9)) | (go_at_call 25; exact Calls.quiet_of (rLeft_any (Q9.out.draws _) hsz ha9))))
          go_wp2
          go_roundw
          case rel => exact ⟨j + 1, g, moved s a n, rfl, by go_num, by omega, by omega, ha9, Lib.hid (R9.out.draws _), Lib.hid (Q9.out.draws _), G9, Lib.hid (below_drewN B9.out _)⟩
          case measure => simp [intOf]; omega
        · go_wp2_with fail
          refine (Peek_b n R.out hsz ha).mono ?_
          rintro e w3 ⟨rfl, r3, o3⟩
          have R3 := Lib.hid r3
          have Q3 := Lib.hid (Q.out.below o3)
          have B3 := Lib.hid (HB.out.trans (o3.mono HB.out.size))
          clear r3 o3 R Q k1 k2
          go_wp2_with fail
          refine (rPeek_b n Q3.out hsz ha).mono ?_
          rintro e w4 ⟨rfl, r4, o4⟩
          have Q9 := Lib.hid r4
          have R9 := Lib.hid (R3.out.below o4)
          have B9 := Lib.hid (B3.out.trans (o4.mono B3.out.size))
          have G9 := HG
          have ha9 := ha
          clear r4 o4 R3 Q3 B3 HB
          have q1 := Q9.out.c1
          go_wp2_with fail
          go_quiet ((first | (go_at_call 23; exact Calls.quiet_of_same (At_any (R9.out.draws _))) | (go_at_call 24; exact Calls.quiet_of (Left_any (R9.out.draws _) hsz ha9)) | (go_at_call 25; exact Calls.quiet_of (rLeft_any (Q9.out.draws _) hsz ha9))))
          go_wp2
          go_roundw
          case rel => exact ⟨j + 1, g, a, rfl, by go_num, by omega, by omega, ha9, Lib.hid (R9.out.draws _), Lib.hid (Q9.out.draws _), G9, Lib.hid (below_drewN B9.out _)⟩
          case measure => simp [intOf]; omega
        · go_wp2_with fail
          refine (Skip_any n R.out hsz ha).mono ?_
          rintro e w3 ⟨rfl, r3, o3⟩
          have R3 := Lib.hid r3
          have Q3 := Lib.hid (Q.out.only o3 (fun e => hgh e.symm))
          have B3 := Lib.hid (o3.below HB.out HB.out.size (fun i hi => by cases hi; exact HG.out))
          clear r3 o3 R Q k1 k2
          go_wp2_with fail
          refine (rSkip_any n Q3.out hsz ha).mono ?_
          rintro e w4 ⟨rfl, r4, o4⟩
          have Q9 := Lib.hid r4
          have R9 := Lib.hid (R3.out.only o4 (fun e => hgh e))
          have B9 := Lib.hid (o4.below B3.out B3.out.size (fun i hi => by cases hi; exact HH.out))
          have G9 := HG
          have ha9 : moved s a n ≤ 8 * s.size := moved_le ha
          clear r4 o4 R3 Q3 B3 HB
          have q1 := Q9.out.c1
          go_wp2_with fail
          go_quiet ((first | (go_at_call 23; exact Calls.quiet_of_same (At_any (R9.out.draws _))) | (go_at_call 24; exact Calls.quiet_of (Left_any (R9.out.draws _) hsz ha9)) | (go_at_call 25; exact Calls.quiet_of (rLeft_any (Q9.out.draws _) hsz ha9))))
          go_wp2
          go_roundw
          case rel => exact ⟨j + 1, g, moved s a n, rfl, by go_num, by omega, by omega, ha9, Lib.hid (R9.out.draws _), Lib.hid (Q9.out.draws _), G9, Lib.hid (below_drewN B9.out _)⟩
          case measure => simp [intOf]; omega
        · go_wp2_with fail
          refine (Align_any R.out hsz ha).mono ?_
          rintro e w3 ⟨rfl, r3, o3⟩
          have R3 := Lib.hid r3
          have Q3 := Lib.hid (Q.out.only o3 (fun e => hgh e.symm))
          have B3 := Lib.hid (o3.below HB.out HB.out.size (fun i hi => by cases hi; exact HG.out))
          clear r3 o3 R Q k1 k2
          go_wp2_with fail
          refine (rAlign_any Q3.out hsz ha).mono ?_
          rintro e w4 ⟨rfl, r4, o4⟩
          have Q9 := Lib.hid r4
          have R9 := Lib.hid (R3.out.only o4 (fun e => hgh e))
          have B9 := Lib.hid (o4.below B3.out B3.out.size (fun i hi => by cases hi; exact HH.out))
          have G9 := HG
          have ha9 : ((a + 7) / 8 * 8) ≤ 8 * s.size := by omega
          clear r4 o4 R3 Q3 B3 HB
          have q1 := Q9.out.c1
          go_wp2_with fail
          go_quiet ((first | (go_at_call 23; exact Calls.quiet_of_same (At_any (R9.out.draws _))) | (go_at_call 24; exact Calls.quiet_of (Left_any (R9.out.draws _) hsz ha9)) | (go_at_call 25; exact Calls.quiet_of (rLeft_any (Q9.out.draws _) hsz ha9))))
          go_wp2
          go_roundw
          case rel => exact ⟨j + 1, g, ((a + 7) / 8 * 8), rfl, by go_num, by omega, by omega, ha9, Lib.hid (R9.out.draws _), Lib.hid (Q9.out.draws _), G9, Lib.hid (below_drewN B9.out _)⟩
          case measure => simp [intOf]; omega
        · go_wp2_with fail
          refine (Bytes_any n R.out hsz ha hn).mono ?_
          rintro e w3 ⟨rfl, r3, o3⟩
          have R3 := Lib.hid r3
          have Q3 := Lib.hid (Q.out.only o3 (fun e => hgh e.symm))
          have B3 := Lib.hid (o3.below HB.out HB.out.size (fun i hi => by cases hi; exact HG.out))
          clear r3 o3 R Q k1 k2
          go_wp2_with fail
          refine (rBytes_any n Q3.out hsz ha hn).mono ?_
          rintro e w4 ⟨rfl, r4, o4⟩
          have Q9 := Lib.hid r4
          have R9 := Lib.hid (R3.out.only o4 (fun e => hgh e))
          have B9 := Lib.hid (o4.below B3.out B3.out.size (fun i hi => by cases hi; exact HH.out))
          have G9 := HG
          have ha9 : bytA s a n ≤ 8 * s.size := bytA_le ha
          clear r4 o4 R3 Q3 B3 HB
          have q1 := Q9.out.c1
          go_wp2_with fail
          go_quiet ((first | (go_at_call 23; exact Calls.quiet_of_same (At_any (R9.out.draws _))) | (go_at_call 24; exact Calls.quiet_of (Left_any (R9.out.draws _) hsz ha9)) | (go_at_call 25; exact Calls.quiet_of (rLeft_any (Q9.out.draws _) hsz ha9))))
          go_wp2
          go_roundw
          case rel => exact ⟨j + 1, g, bytA s a n, rfl, by go_num, by omega, by omega, ha9, Lib.hid (R9.out.draws _), Lib.hid (Q9.out.draws _), G9, Lib.hid (below_drewN B9.out _)⟩
          case measure => simp [intOf]; omega
        · have d0 : (x == 0) = false := by simpa using h0
          have d1 : (x == 1) = false := by simpa using h1
          have d2 : (x == 2) = false := by simpa using h2
          have d3 : (x == 3) = false := by simpa using h3
          have d4 : (x == 4) = false := by simpa using h4
          clear h0 h1 h2 h3 h4
          go_wp2_with fail
          refine (Copy_any R.out).mono ?_
          rintro e w3 ⟨g', rfl, r3, hg', o3⟩
          have hgl : g < g' := by rw [hg']; exact R.out.lt
          have R3 := Lib.hid r3
          have R0 := Lib.hid (R.out.below o3)
          have Q3 := Lib.hid (Q.out.below o3)
          have B3 := Lib.hid (HB.out.trans (o3.mono HB.out.size))
          clear r3 o3 R Q k1 k2 hg'
          go_wp2_with fail
          refine (Skip_any 1 R0.out hsz ha).mono ?_
          rintro e w4 ⟨rfl, r4, o4⟩
          have Q9 := Lib.hid (Q3.out.only o4 (fun e => hgh e.symm))
          have R9 := Lib.hid (R3.out.only o4 (by unfold At; omega))
          have B9 := Lib.hid (o4.below B3.out B3.out.size (fun i hi => by cases hi; exact HG.out))
          have G9 : Hid (w.heap.size ≤ g') := Lib.hid (by have := HG.out; omega)
          have ha9 := ha
          clear r4 o4 R3 R0 Q3 B3 HB
          have q1 := Q9.out.c1
          go_wp2_with fail
          go_quiet ((first | (go_at_call 23; exact Calls.quiet_of_same (At_any (R9.out.draws _))) | (go_at_call 24; exact Calls.quiet_of (Left_any (R9.out.draws _) hsz ha9)) | (go_at_call 25; exact Calls.quiet_of (rLeft_any (Q9.out.draws _) hsz ha9))))
          go_wp2
          go_roundw
          case rel => exact ⟨j + 1, g', a, rfl, by go_num, by omega, by omega, ha9, Lib.hid (R9.out.draws _), Lib.hid (Q9.out.draws _), G9, Lib.hid (below_drewN B9.out _)⟩
          case measure => simp [intOf]; omega
      · go_wp2_with (go_at_call 9; refine (known_any _).mono ?_; rintro e w' ⟨rfl, hb⟩)
        go_ret
        exact ⟨rfl, HB.out.trans (hb.mono HB.out.size)⟩
    · go_wp2_with (go_at_call 9; refine (known_any _).mono ?_; rintro e w' ⟨rfl, hb⟩)
      go_ret
      exact ⟨rfl, HB.out.trans (hb.mono HB.out.size)⟩

set_option maxRecDepth 100000 in
theorem walk (s : ByteArray) (at_ : Int) (A : Option Addr) (len cap : Nat) (_ : s.size ≤ maxLen) (w1 : (Lit.int .i64 at_).wf = true) (hl : len ≤ 9223372036854775807) (w : World) (HC : Hid (cellsOf w A len)) :
    Calls Try.prog 3 #[.string s, .int .i64 at_, .slice A len cap] w fun e w' => e = .returned (.bool true) ∧ Below w.heap.size w w' := by
  by_cases hs : 10000 < s.size
  · go_enter Try.func3, Try.ntmps3
    go_wp2_with (go_at_call 9; refine (known_any _).mono ?_; rintro e w' ⟨rfl, hb⟩)
    go_ret
    exact ⟨rfl, hb⟩
  · by_cases ha : at_ < 0 ∨ 8 * (s.size : Int) < at_
    · exact out_of s at_ A len cap (by omega) ha hl w
    · obtain ⟨a0, rfl⟩ := Int.eq_ofNat_of_zero_le (show 0 ≤ at_ by omega)
      exact within s a0 A len cap (by omega) (by omega) hl w HC


theorem cells32 : Try.prog.cellsOf 32 = 2 := by kernel_rfl
theorem cells3 : Try.prog.cellsOf 3 = 1 := by kernel_rfl

set_option maxRecDepth 100000 in
theorem lifted (os : Os) (started : os.Started) (H : Type) (enc : TypeId × Value → H) :
    ReturnsInHanded {} Try.checked os 3 .any (Rows.bitrowReadsSpec.pre6 enc Try.prog Try.f3 Rows.bitrowReadsRow.domain false) (Rows.bitrowReadsSpec.post enc Try.prog Try.f3 false true false false) := by
  refine returnsInHanded_of_change (C := Try.checked) own started (by kernel_rfl) Try.func3
    (ChangeSpec.witness6 (enc := enc) (C := Try.checked) false ⟨#[], #[.string ByteArray.empty, .int .i64 0, .slice none 0 0], []⟩ 8 (by kernel_rfl) (by kernel_rfl) (by kernel_rfl) (by kernel_rfl)) ?_
  intro W base args ds gs before hval0 hW _ _
  have hval : ∀ (j : Nat) t v, Try.f3.params[j]? = some t → args[j]? = some v → Value.okWide Try.prog W .any base t v := hval0
  have hW' := hW
  obtain ⟨p, q, hA0, hV, rfl, hfz, hnd⟩ := hW
  have hA : DataW.TrodAll enc Try.prog W 0 (fun _ => true) true Try.f3.params.toList args.toList ds p := hA0
  rw [Try.params3] at hA hval
  obtain ⟨v0, vs0, d0, ds0, p0, q0, hargs, rfl, rfl, h0, r0⟩ := trodAll_cons hA
  obtain ⟨v1, vs1, d1, ds1, p1, q1, rfl, rfl, rfl, h1, r1⟩ := trodAll_cons r0
  obtain ⟨v2, vs2, d2, ds2, p2, q2, rfl, rfl, rfl, h2, r2⟩ := trodAll_cons r1
  obtain ⟨rfl, rfl, rfl⟩ := trodAll_nil r2
  obtain rfl : args = #[v0, v1, v2] := by cases args; simp_all
  obtain ⟨rfl, rfl⟩ := trodVars_none hV
  obtain ⟨a0, rfl, rfl, rfl, w0⟩ := open_string Try.underlying9 (hval 0 9 v0 rfl rfl) h0
  obtain ⟨a1, rfl, rfl, rfl, w1⟩ := open_int Try.underlying3 (hval 1 3 v1 rfl rfl) h1
  obtain ⟨A2, len, cap, rfl⟩ := okWide_slice Try.underlying22 (hval 2 22 v2 rfl rfl)
  have hcells : len ≤ 9223372036854775807 ∧ cellsOf W A2 len := by
    rcases open_twos Try.underlying22 Try.underlying32 Try.underlying3 cells32 cells3 rfl rfl ⟨rfl, rfl⟩ ⟨rfl, rfl⟩ h2 with rfl | ⟨b, off, rfl, hl, hm, hb, hi⟩
    · exact ⟨by omega, fun i hi => absurd hi (by omega)⟩
    · unfold maxLen at hm
      refine ⟨by omega, fun i hlt => ?_⟩
      obtain ⟨x, y, hx, hy, _, wy⟩ := hi i hlt
      have hy' : -9223372036854775808 ≤ y ∧ y ≤ 9223372036854775807 := by simpa [Lit.wf, IntKind.min, IntKind.max, IntKind.signed, IntKind.bits] using wy
      exact ⟨b, off, x, y, rfl, hb, hx, hy, hy'.2⟩
  refine (walk a0 a1 A2 len cap w0 w1 hcells.1 W (Lib.hid hcells.2)).mono fun e W' ⟨he, hb⟩ => ?_
  subst he
  exact ⟨_, rfl, law_post (P := Try.prog) (f := Try.f3) laidOut (by kernel_rfl) (by kernel_rfl) Try.underlying4 rfl hW' rfl hb⟩

theorem proved : Rows.BitrowReadsSaid :=
  OpenClaim.holds_of_wide 3 Try.f3 rfl rfl rfl rfl rfl rfl rfl ⟨rfl, rfl, rfl, rfl, rfl⟩ rfl rfl rfl rfl rfl (by kernel_rfl) Try.func3 (by kernel_rfl)
    (of_decide_eq_true (by kernel_rfl)) (by unfold Func.isWrapper; first | (rw [if_pos (by decide +kernel)]; kernel_rfl) | (rw [if_neg (by decide +kernel)]; exact ⟨rfl, rfl⟩))
    (fun os started H enc _ => lifted os started H enc)
#print axioms proved
end Go.Proofs.Ytceocbfeapdjeaa.bitrowReads
