/-
  The calls with fixed values that stand at the end of each law of layer 4: they answer as they must.
-/
import Derived.Test.YtceocbfeapdjeaaBs
import Derived.Test.YtceocbfeapdjeaaBx
namespace Go.Proofs.Ytceocbfeapdjeaa.Bk
open Go.RowKit Go.Proofs.Ytceocbfeapdjeaa.Vm Go.Proofs.Ytceocbfeapdjeaa.Vo Go.Proofs.Ytceocbfeapdjeaa.Bm Go.Proofs.Ytceocbfeapdjeaa.Bo Go.Proofs.Ytceocbfeapdjeaa.Bt Go.Proofs.Ytceocbfeapdjeaa.Bw Go.Proofs.Ytceocbfeapdjeaa.Br Go.Proofs.Ytceocbfeapdjeaa.Bp Go.Proofs.Ytceocbfeapdjeaa.Bs Go.Proofs.Ytceocbfeapdjeaa.Bv Go.Proofs.Ytceocbfeapdjeaa.Bx

theorem wt_only {S : Nat → Prop} {base : Nat} {w w' : World} {g : Nat} {v : Value} {l : List UInt8} {z : Nat} (h : wt base w g v l z) (k : Only S w w') (hg : ¬ S g) (hv : ∀ i, v.ownBlock = some i → ¬ S i) : wt base w' g v l z :=
  ⟨h.b.only k hg, own_only h.o k hv, h.lt, h.len⟩

/-- The fixed text. -/
def tx : ByteArray := ⟨#[5, 128]⟩
theorem k1 : bitsV tx 0 3 = 5 ∧ chk tx 0 3 = 0 ∧ moved tx 0 3 = 3 := by decide +kernel
theorem k2 : bitsV tx 3 5 = 0 ∧ chk tx 3 5 = 0 ∧ moved tx 3 5 = 8 := by decide +kernel
theorem k3 : bitsV tx 8 8 = 128 ∧ chk tx 8 8 = 0 ∧ moved tx 8 8 = 16 := by decide +kernel
theorem k4 : bitsV tx 16 1 = 0 ∧ chk tx 16 1 = 2 ∧ moved tx 16 1 = 16 := by decide +kernel
theorem k5 : putE 1 1 = 0 ∧ putZ 0 1 1 = 1 ∧ putN 0 0 1 1 = 1 := by decide +kernel
theorem k6 : putE 3 3 = 0 ∧ putZ 1 3 3 = 4 ∧ codeN 1 1 3 3 = 13 := by decide +kernel
theorem k7 : turnR 1 3 = 4 := by decide +kernel
theorem k8 (l : List UInt8) (h1 : l.length = 1) (h2 : num l = 13) : l = [13] := num_inj _ _ (by rw [h1]; rfl) (by rw [h2]; rfl)

set_option maxHeartbeats 2000000 in
set_option maxRecDepth 100000 in
theorem known_any (w : World) : Calls Try.prog 9 #[] w fun e w' => e = .returned (.bool true) ∧ Below w.heap.size w w' := by
  go_enter Try.func9, Try.ntmps9
  go_wp2_with fail
  refine (New_ok tx 0 _ (by decide) (by decide)).mono ?_
  rintro e w1 ⟨g, rfl, r1, rfl, b1⟩
  have R1 := Lib.hid r1; clear r1
  go_wp2_with fail
  refine (Open_any _).mono ?_
  rintro e w2 ⟨h, rfl, t2, rfl, b2⟩
  have hgl : w.heap.size < w1.heap.size := R1.out.lt
  have T2 := Lib.hid t2
  have R2 := Lib.hid (R1.out.below b2)
  have hl2 : w1.heap.size < w2.heap.size := Blk.lt t2.b
  clear t2 R1
  have b3 := grows b1 b2
  clear b1 b2
  go_wp2_with fail
  refine (Bits_any 3 R2.out (by decide) (by decide)).mono ?_
  rintro e w3 ⟨rfl, r3, o3⟩
  rw [k1.1, k1.2.1]
  rw [k1.2.2] at r3
  have R3 := Lib.hid r3
  have T3 := Lib.hid (wt_only T2.out o3 (by unfold At; omega) (by simp [Value.ownBlock]))
  have b4 := o3.below b3 (by omega) (fun i hi => by unfold At at hi; omega)
  have s3 := o3.size
  clear r3 o3 R2 T2 b3
  go_wp2_with fail
  refine (Bits_any 5 R3.out (by decide) (by decide)).mono ?_
  rintro e w4 ⟨rfl, r4, o4⟩
  rw [k2.1, k2.2.1]
  rw [k2.2.2] at r4
  have R4 := Lib.hid r4
  have T4 := Lib.hid (wt_only T3.out o4 (by unfold At; omega) (by simp [Value.ownBlock]))
  have b5 := o4.below b4 (by omega) (fun i hi => by unfold At at hi; omega)
  have s4 := o4.size
  clear r4 o4 R3 T3 b4
  go_wp2_with fail
  refine (Bits_any 8 R4.out (by decide) (by decide)).mono ?_
  rintro e w5 ⟨rfl, r5, o5⟩
  rw [k3.1, k3.2.1]
  rw [k3.2.2] at r5
  have R5 := Lib.hid r5
  have T5 := Lib.hid (wt_only T4.out o5 (by unfold At; omega) (by simp [Value.ownBlock]))
  have b6 := o5.below b5 (by omega) (fun i hi => by unfold At at hi; omega)
  have s5 := o5.size
  clear r5 o5 R4 T4 b5
  go_wp2_with fail
  refine (Bits_any 1 R5.out (by decide) (by decide)).mono ?_
  rintro e w6 ⟨rfl, r6, o6⟩
  rw [k4.1, k4.2.1]
  have T6 := Lib.hid (wt_only T5.out o6 (by unfold At; omega) (by simp [Value.ownBlock]))
  have b7 := o6.below b6 (by omega) (fun i hi => by unfold At at hi; omega)
  have s6 := o6.size
  clear r6 o6 R5 T5 b6
  go_wp2_with fail
  refine (Bx.Put_any _ 1 1 T6.out (by omega) (by decide)).mono ?_
  rintro e w7 ⟨rfl, v7, l7, t7, n7, o7, a7⟩
  rw [k5.1]
  rw [k5.2.1] at t7
  rw [show num ([] : List UInt8) = 0 from rfl, k5.2.2] at n7
  have T7 := Lib.hid t7
  have N7 := Lib.hid n7
  have b8 := o7.below b7 (by omega) (fun i hi => by
    rcases hi with rfl | hi
    · omega
    · simp [Value.ownBlock] at hi)
  have s7 := o7.size
  have A7 := Lib.hid a7
  clear t7 n7 o7 a7 T6 b7
  go_wp2_with fail
  refine (Bx.Code_any _ 3 3 T7.out (by omega) (by decide)).mono ?_
  rintro e w8 ⟨rfl, v8, l8, t8, n8, o8, a8⟩
  rw [k6.1]
  rw [k6.2.1] at t8
  rw [N7.out, k6.2.2] at n8
  have b9 := o8.below b8 (by omega) (fun i hi => by
    rcases hi with rfl | hi
    · omega
    · have := (T7.out.o.lt i hi).1; omega)
  have e8 := k8 l8 t8.len n8
  subst e8
  have T8 := Lib.hid t8
  have B8 := Lib.hid t8.b
  clear t8 n8 o8 a8 T7 N7 b8 A7
  go_wp2_with fail
  refine (Bx.Text_any T8.out).mono ?_
  rintro e w9 ⟨rfl, rfl⟩
  go_wp2_with fail
  refine (Bx.Len_any B8.out).mono ?_
  rintro e w9 ⟨rfl, rfl⟩
  go_wp2_with fail
  refine (Turn_any 1 3 _).mono ?_
  rintro e w9 ⟨rfl, rfl⟩
  rw [k7]
  go_wp2
  go_ret
  exact ⟨rfl, b9⟩

end Go.Proofs.Ytceocbfeapdjeaa.Bk
