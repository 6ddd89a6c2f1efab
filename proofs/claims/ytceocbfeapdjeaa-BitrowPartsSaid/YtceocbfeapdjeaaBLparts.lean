/-
  collimatorlaw04.BitrowParts returns true for every string, every place and every two numbers of bits: bits in two parts are the bits at once.
  Conditions: none.
-/
import Derived.Test.YtceocbfeapdjeaaBk
import Derived.Test.YtceocbfeapdjeaaBy
import Derived.Test.YtceocbfeapdjeaaCc
import Derived.Test.YtceocbfeapdjeaaLw
namespace Go.Proofs.Ytceocbfeapdjeaa.bitrowParts
open Go.ChangeShapes Go.WideShapes Go.ChangeAt Go.RowKit
open Go.ChangeMaps (open_string shut_string)
open Go.Proofs.Ytceocbfeapdjeaa.Lw Go.Proofs.Ytceocbfeapdjeaa.Vm Go.Proofs.Ytceocbfeapdjeaa.Vo Go.Proofs.Ytceocbfeapdjeaa.Bm Go.Proofs.Ytceocbfeapdjeaa.Bo Go.Proofs.Ytceocbfeapdjeaa.Bt Go.Proofs.Ytceocbfeapdjeaa.Bw Go.Proofs.Ytceocbfeapdjeaa.Br Go.Proofs.Ytceocbfeapdjeaa.Bp Go.Proofs.Ytceocbfeapdjeaa.Bs Go.Proofs.Ytceocbfeapdjeaa.Bv Go.Proofs.Ytceocbfeapdjeaa.Bx Go.Proofs.Ytceocbfeapdjeaa.Bk Go.Proofs.Ytceocbfeapdjeaa.By


theorem own : ownKnob Try.prog.godebug = none := by kernel_rfl
theorem laidOut : laidOutB Try.prog = true := by kernel_rfl

/-- The three reads: parts that fit, and parts that do not. -/
theorem chk_nat (s : ByteArray) (k a : Nat) (ha : a ≤ 32) : chk s k a = if 8 * s.size - k < a then 2 else 0 := by
  unfold chk
  rw [if_pos (by simp [cnt]; omega)]
  by_cases h : 8 * s.size - k < a
  · rw [if_pos (by omega), if_pos h]
  · rw [if_neg (by omega), if_neg h]
theorem fits (s : ByteArray) (k a : Nat) (ha : a ≤ 32) (h : a ≤ 8 * s.size - k) : chk s k a = 0 ∧ bitsV s k a = (peekN (num s.data.toList) k a : Nat) ∧ moved s k a = k + a := by
  have e : chk s k a = 0 := by rw [chk_nat s k a ha, if_neg (by omega)]
  refine ⟨e, ?_, ?_⟩
  · unfold bitsV peekR
    rw [if_pos e, if_pos (by simp [cnt]; omega)]
    rfl
  · unfold moved; rw [if_pos e]; rfl
theorem short (s : ByteArray) (k a : Nat) (ha : a ≤ 32) (h : 8 * s.size - k < a) : chk s k a = 2 ∧ bitsV s k a = 0 ∧ moved s k a = k := by
  have e : chk s k a = 2 := by rw [chk_nat s k a ha, if_pos h]
  refine ⟨e, ?_, ?_⟩
  · unfold bitsV; rw [e, if_neg (by decide)]
  · unfold moved; rw [e, if_neg (by decide)]

set_option maxHeartbeats 4000000 in
set_option maxRecDepth 100000 in
theorem inner (s : ByteArray) (c : Int) (p q : Nat) (hc : -9223372036854775808 ≤ c ∧ c ≤ 9223372036854775807) (hs : s.size ≤ 10000) (hp : p ≤ 255) (hq : q ≤ 255) (w : World) :
    Calls Try.prog 7 #[.string s, .int .i64 c, .agg #[.int .u8 p, .int .u8 q]] w fun e w' => e = .returned (.bool true) ∧ Below w.heap.size w w' := by
  go_enter Try.func7, Try.ntmps7
  go_wp2_with fail
  refine (Cc.Count_any c (8 * s.size + 1) hc (by omega) (by omega) _).mono ?_
  rintro e w' ⟨rfl, rfl⟩
  have hk : Cc.cnt c (8 * s.size + 1) ≤ 8 * s.size := by have := Cc.cnt_lt c (m := 8 * s.size + 1) (by omega); omega
  generalize Cc.cnt c (8 * s.size + 1) = k at *
  have hw0 := Lib.hid ((Below.refl w.heap.size w).alloc (Nat.le_refl _) (.cells #[.int .u8 p, .int .u8 q] 60))
  have p0 : (w.alloc (.cells #[.int .u8 p, .int .u8 q] 60)).cell? ⟨w.heap.size, 0, none⟩ = some (.int .u8 p) := Blk.cell (Blk.fresh w _ _) 0
  have p1 : (w.alloc (.cells #[.int .u8 p, .int .u8 q] 60)).cell? ⟨w.heap.size, 1, none⟩ = some (.int .u8 q) := Blk.cell (Blk.fresh w _ _) 1
  obtain ⟨a, ha, ha16⟩ : ∃ a : Nat, (p : Int) % 17 = (a : Int) ∧ a ≤ 16 := ⟨p % 17, by omega, by omega⟩
  obtain ⟨b, hb', hb16⟩ : ∃ b : Nat, (q : Int) % 17 = (b : Int) ∧ b ≤ 16 := ⟨q % 17, by omega, by omega⟩
  have hsz : s.size ≤ 281474976710656 := by omega
  generalize w.alloc (.cells #[.int .u8 p, .int .u8 q] 60) = w0 at *
  go_wp2_with fail
  rw [ha, hb']
  refine (New_ok s k _ hsz hk).mono ?_
  rintro e w1 ⟨g, rfl, r1, rfl, b1⟩
  have R1 := Lib.hid r1
  have hg1 : w0.heap.size < w1.heap.size := r1.lt
  have B1 := Lib.hid (hw0.out.trans (b1.mono hw0.out.size))
  clear p0 p1 ha hb' r1 b1
  go_wp2_with fail
  refine (New_ok s k _ hsz hk).mono ?_
  rintro e w2 ⟨g, rfl, r2, rfl, b2⟩
  have R2 := Lib.hid r2
  have R1' := Lib.hid (R1.out.below b2)
  have hg2 : w1.heap.size < w2.heap.size := r2.lt
  have hwx : w.heap.size ≤ w0.heap.size := hw0.out.size
  have B2 := Lib.hid (B1.out.trans (b2.mono B1.out.size))
  clear r2 b2 R1 B1 hw0
  by_cases hfit : a + b ≤ 8 * s.size - k
  · obtain ⟨c1, v1, m1⟩ := fits s k a (by omega) (by omega)
    obtain ⟨c2, v2, m2⟩ := fits s (k + a) b (by omega) (by omega)
    obtain ⟨c3, v3, m3⟩ := fits s k (a + b) (by omega) hfit
    have hadd := peekN_add (num s.data.toList) k a b
    have l1 := peekN_lt (num s.data.toList) k a
    have l2 := peekN_lt (num s.data.toList) (k + a) b
    have q1 : 2 ^ a ≤ 2 ^ 16 := Nat.pow_le_pow_right (by omega) ha16
    have q2 : 2 ^ b ≤ 2 ^ 16 := Nat.pow_le_pow_right (by omega) hb16
    have C1 := Lib.hid c1; have V1 := Lib.hid v1; have M1 := Lib.hid m1
    have C2 := Lib.hid c2; have V2 := Lib.hid v2; have M2 := Lib.hid m2
    have C3 := Lib.hid c3; have V3 := Lib.hid v3; have M3 := Lib.hid m3
    clear c1 v1 m1 c2 v2 m2 c3 v3 m3
    have hsum : (((peekN (num s.data.toList) k (a + b) : Nat) : Int) == ((peekN (num s.data.toList) k a : Nat) : Int) + ((peekN (num s.data.toList) (k + a) b : Nat) : Int) * 2 ^ a) = true := by
      rw [hadd]; simp; rw [Int.mul_comm]
    have hshl : 0 ≤ ((peekN (num s.data.toList) (k + a) b : Nat) : Int) * 2 ^ a ∧ ((peekN (num s.data.toList) (k + a) b : Nat) : Int) * 2 ^ a ≤ 4294967296 := by
      have e : ((peekN (num s.data.toList) (k + a) b : Nat) : Int) * 2 ^ a = ((peekN (num s.data.toList) (k + a) b * 2 ^ a : Nat) : Int) := by push_cast; rfl
      have h : peekN (num s.data.toList) (k + a) b * 2 ^ a ≤ 2 ^ 16 * 2 ^ 16 := Nat.mul_le_mul (by omega) q1
      rw [e]
      omega
    have w1' : peekN (num s.data.toList) k a < 65536 := Nat.lt_of_lt_of_le l1 q1
    generalize peekN (num s.data.toList) k (a + b) = X at *
    generalize peekN (num s.data.toList) k a = U at *
    generalize peekN (num s.data.toList) (k + a) b = V at *
    clear hadd l1 l2 q1 q2
    go_wp2_with fail
    refine (Bits_any _ R1'.out hsz hk).mono ?_
    rintro e w3 ⟨rfl, r3, o3⟩
    rw [C1.out, V1.out]
    rw [M1.out] at r3
    have R3 := Lib.hid r3
    have R2' := Lib.hid (R2.out.only o3 (by unfold At; omega))
    have B3 := Lib.hid (o3.below B2.out (by omega) (fun i hi => by unfold At at hi; omega))
    have s3 := o3.size
    clear r3 o3 R2 R1' B2
    go_wp2_with fail
    refine (Bits_any _ R3.out hsz (by omega)).mono ?_
    rintro e w4 ⟨rfl, r4, o4⟩
    rw [C2.out, V2.out]
    rw [M2.out] at r4
    have R4 := Lib.hid r4
    have R2'' := Lib.hid (R2'.out.only o4 (by unfold At; omega))
    have B4 := Lib.hid (o4.below B3.out (by omega) (fun i hi => by unfold At at hi; omega))
    have s4 := o4.size
    clear r4 o4 R3 R2' B3
    go_wp2_with fail
    refine (Bits_any ((a + b : Nat) : Int) R2''.out hsz hk).mono ?_
    rintro e w5 ⟨rfl, r5, o5⟩
    rw [C3.out, V3.out]
    rw [M3.out] at r5
    have R5 := Lib.hid r5
    have R4' := Lib.hid (R4.out.only o5 (by unfold At; omega))
    have B5 := Lib.hid (o5.below B4.out (by omega) (fun i hi => by unfold At at hi; omega))
    clear r5 o5 R4 R2'' B4
    go_wp2_with (first | (go_at_call 23; first | (refine (At_any R4'.out).mono ?_; rintro e w' ⟨rfl, rfl⟩) | (refine (At_any R5.out).mono ?_; rintro e w' ⟨rfl, rfl⟩)) | (go_at_call 9; refine (known_any _).mono ?_; rintro e w' ⟨rfl, hb⟩))
    go_ret
    exact ⟨rfl, B5.out.trans (hb.mono B5.out.size)⟩
  · by_cases hA : a ≤ 8 * s.size - k
    · obtain ⟨c1, v1, m1⟩ := fits s k a (by omega) (by omega)
      obtain ⟨c2, v2, m2⟩ := short s (k + a) b (by omega) (by omega)
      obtain ⟨c3, v3, m3⟩ := short s k (a + b) (by omega) (by omega)
      have hk2 : k + a ≤ 8 * s.size := by omega
      have C1 := Lib.hid c1; have V1 := Lib.hid v1; have M1 := Lib.hid m1
      have C2 := Lib.hid c2; have V2 := Lib.hid v2; have M2 := Lib.hid m2
      have C3 := Lib.hid c3; have V3 := Lib.hid v3; have M3 := Lib.hid m3
      clear c1 v1 m1 c3 v3 m3 c2 v2 m2
      go_wp2_with fail
      refine (Bits_any _ R1'.out hsz hk).mono ?_
      rintro e w3 ⟨rfl, r3, o3⟩
      rw [C1.out, V1.out]
      rw [M1.out] at r3
      have R3 := Lib.hid r3
      have R2' := Lib.hid (R2.out.only o3 (by unfold At; omega))
      have B3 := Lib.hid (o3.below B2.out (by omega) (fun i hi => by unfold At at hi; omega))
      have s3 := o3.size
      clear r3 o3 R2 R1' B2
      go_wp2_with fail
      refine (Bits_any _ R3.out hsz hk2).mono ?_
      rintro e w4 ⟨rfl, r4, o4⟩
      rw [C2.out, V2.out]
      have R2'' := Lib.hid (R2'.out.only o4 (by unfold At; omega))
      have B4 := Lib.hid (o4.below B3.out (by omega) (fun i hi => by unfold At at hi; omega))
      have s4 := o4.size
      clear r4 o4 R3 R2' B3
      go_wp2_with fail
      refine (Bits_any ((a + b : Nat) : Int) R2''.out hsz hk).mono ?_
      rintro e w5 ⟨rfl, r5, o5⟩
      rw [C3.out, V3.out]
      rw [M3.out] at r5
      have R5 := Lib.hid r5
      have B5 := Lib.hid (o5.below B4.out (by omega) (fun i hi => by unfold At at hi; omega))
      clear r5 o5 R2'' B4
      go_wp2_with (first | (go_at_call 23; refine (At_any R5.out).mono ?_; rintro e w' ⟨rfl, rfl⟩) | (go_at_call 9; refine (known_any _).mono ?_; rintro e w' ⟨rfl, hb⟩))
      go_ret
      exact ⟨rfl, B5.out.trans (hb.mono B5.out.size)⟩
    · obtain ⟨c1, v1, m1⟩ := short s k a (by omega) (by omega)
      obtain ⟨c3, v3, m3⟩ := short s k (a + b) (by omega) (by omega)
      have C1 := Lib.hid c1; have V1 := Lib.hid v1; have M1 := Lib.hid m1
      have C3 := Lib.hid c3; have V3 := Lib.hid v3; have M3 := Lib.hid m3
      clear c1 v1 m1 c3 v3 m3
      go_wp2_with fail
      refine (Bits_any _ R1'.out hsz hk).mono ?_
      rintro e w3 ⟨rfl, r3, o3⟩
      rw [C1.out, V1.out]
      rw [M1.out] at r3
      have R3 := Lib.hid r3
      have R2' := Lib.hid (R2.out.only o3 (by unfold At; omega))
      have B3 := Lib.hid (o3.below B2.out (by omega) (fun i hi => by unfold At at hi; omega))
      have s3 := o3.size
      clear r3 o3 R2 R1' B2
      go_wp2_with fail
      refine (Bits_any _ R3.out hsz hk).mono ?_
      rintro e w4 ⟨rfl, r4, o4⟩
      generalize chk s k (b : Int) = E2 at *
      generalize bitsV s k (b : Int) = Q2 at *
      have R2'' := Lib.hid (R2'.out.only o4 (by unfold At; omega))
      have B4 := Lib.hid (o4.below B3.out (by omega) (fun i hi => by unfold At at hi; omega))
      have s4 := o4.size
      clear r4 o4 R3 R2' B3
      go_wp2_with fail
      refine (Bits_any ((a + b : Nat) : Int) R2''.out hsz hk).mono ?_
      rintro e w5 ⟨rfl, r5, o5⟩
      rw [C3.out, V3.out]
      rw [M3.out] at r5
      have R5 := Lib.hid r5
      have B5 := Lib.hid (o5.below B4.out (by omega) (fun i hi => by unfold At at hi; omega))
      clear r5 o5 R2'' B4
      go_wp2_with (first | (go_at_call 23; refine (At_any R5.out).mono ?_; rintro e w' ⟨rfl, rfl⟩) | (go_at_call 9; refine (known_any _).mono ?_; rintro e w' ⟨rfl, hb⟩))
      go_ret
      exact ⟨rfl, B5.out.trans (hb.mono B5.out.size)⟩

set_option maxRecDepth 100000 in
theorem walk (s : ByteArray) (c p q : Int) (_ : s.size ≤ maxLen) (w1 : (Lit.int .i64 c).wf = true) (wp : (Lit.int .u8 p).wf = true) (wq : (Lit.int .u8 q).wf = true) (w : World) :
    Calls Try.prog 7 #[.string s, .int .i64 c, .agg #[.int .u8 p, .int .u8 q]] w fun e w' => e = .returned (.bool true) ∧ Below w.heap.size w w' := by
  have hc : -9223372036854775808 ≤ c ∧ c ≤ 9223372036854775807 := by simpa [Lit.wf, IntKind.min, IntKind.max, IntKind.signed, IntKind.bits] using w1
  have hp : 0 ≤ p ∧ p ≤ 255 := by simpa [Lit.wf, IntKind.min, IntKind.max, IntKind.signed, IntKind.bits] using wp
  have hq : 0 ≤ q ∧ q ≤ 255 := by simpa [Lit.wf, IntKind.min, IntKind.max, IntKind.signed, IntKind.bits] using wq
  obtain ⟨p, rfl⟩ := Int.eq_ofNat_of_zero_le hp.1
  obtain ⟨q, rfl⟩ := Int.eq_ofNat_of_zero_le hq.1
  by_cases hs : 10000 < s.size
  · go_enter Try.func7, Try.ntmps7
    go_wp2_with (go_at_call 9; refine (known_any _).mono ?_; rintro e w' ⟨rfl, hb⟩)
    go_ret
    exact ⟨rfl, ((Below.refl _ _).alloc (Nat.le_refl _) _).trans (hb.mono (by simp))⟩
  · exact inner s c p q hc (by omega) (by omega) (by omega) w

theorem cells60 : Try.prog.cellsOf 60 = 2 := by kernel_rfl
theorem cells5 : Try.prog.cellsOf 5 = 1 := by kernel_rfl

set_option maxRecDepth 100000 in
theorem lifted (os : Os) (started : os.Started) (H : Type) (enc : TypeId × Value → H) :
    ReturnsInHanded {} Try.checked os 7 .any (Rows.bitrowPartsSpec.pre6 enc Try.prog Try.f7 Rows.bitrowPartsRow.domain false) (Rows.bitrowPartsSpec.post enc Try.prog Try.f7 false true false false) := by
  refine returnsInHanded_of_change (C := Try.checked) own started (by kernel_rfl) Try.func7
    (ChangeSpec.witness6 (enc := enc) (C := Try.checked) false ⟨#[], #[.string ByteArray.empty, .int .i64 0, .agg #[.int .u8 0, .int .u8 0]], []⟩ 8 (by kernel_rfl) (by kernel_rfl) (by kernel_rfl) (by kernel_rfl)) ?_
  intro W base args ds gs before hval0 hW _ _
  have hval : ∀ (j : Nat) t v, Try.f7.params[j]? = some t → args[j]? = some v → Value.okWide Try.prog W .any base t v := hval0
  have hW' := hW
  obtain ⟨p, q, hA0, hV, rfl, hfz, hnd⟩ := hW
  have hA : DataW.TrodAll enc Try.prog W 0 (fun _ => true) true Try.f7.params.toList args.toList ds p := hA0
  rw [Try.params7] at hA hval
  obtain ⟨v0, vs0, d0, ds0, p0, q0, hargs, rfl, rfl, h0, r0⟩ := trodAll_cons hA
  obtain ⟨v1, vs1, d1, ds1, p1, q1, rfl, rfl, rfl, h1, r1⟩ := trodAll_cons r0
  obtain ⟨v2, vs2, d2, ds2, p2, q2, rfl, rfl, rfl, h2, r2⟩ := trodAll_cons r1
  obtain ⟨rfl, rfl, rfl⟩ := trodAll_nil r2
  obtain rfl : args = #[v0, v1, v2] := by cases args; simp_all
  obtain ⟨rfl, rfl⟩ := trodVars_none hV
  obtain ⟨a0, rfl, rfl, rfl, w0⟩ := open_string Try.underlying9 (hval 0 9 v0 rfl rfl) h0
  obtain ⟨a1, rfl, rfl, rfl, w1⟩ := open_int Try.underlying3 (hval 1 3 v1 rfl rfl) h1
  obtain ⟨a2, b2, rfl, w2, x2⟩ := open_two Try.underlying60 Try.underlying5 cells60 cells5 (hval 2 60 v2 rfl rfl) h2
  refine (walk a0 a1 a2 b2 w0 w1 w2 x2 W).mono fun e W' ⟨he, hb⟩ => ?_
  subst he
  exact ⟨_, rfl, law_post (P := Try.prog) (f := Try.f7) laidOut (by kernel_rfl) (by kernel_rfl) Try.underlying4 rfl hW' rfl hb⟩

theorem proved : Rows.BitrowPartsSaid :=
  OpenClaim.holds_of_wide 7 Try.f7 rfl rfl rfl rfl rfl rfl rfl ⟨rfl, rfl, rfl, rfl, rfl⟩ rfl rfl rfl rfl rfl (by kernel_rfl) Try.func7 (by kernel_rfl)
    (of_decide_eq_true (by kernel_rfl)) (by unfold Func.isWrapper; first | (rw [if_pos (by decide +kernel)]; kernel_rfl) | (rw [if_neg (by decide +kernel)]; exact ⟨rfl, rfl⟩))
    (fun os started H enc _ => lifted os started H enc)
#print axioms proved
end Go.Proofs.Ytceocbfeapdjeaa.bitrowParts
