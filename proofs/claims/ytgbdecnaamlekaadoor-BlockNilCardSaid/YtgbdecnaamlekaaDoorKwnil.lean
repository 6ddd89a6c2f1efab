/-
  BlockNil: of no reader no head is read, by no writer none is written, whatever the head.
  Conditions: none.
  The walk of the call.
-/
import Derived.Test.YtgbdecnaamlekaaDoorKy
import Derived.Test.YtgbdecnaamlekaaDoorKk
import Derived.Test.YtgbdecnaamlekaaDoorLw
namespace Go.Proofs.YtgbdecnaamlekaaDoor.blockNil
open Go.RowKit
open Go.Proofs.YtgbdecnaamlekaaDoor.Vm Go.Proofs.YtgbdecnaamlekaaDoor.Vo Go.Proofs.YtgbdecnaamlekaaDoor.Bw Go.Proofs.YtgbdecnaamlekaaDoor.Br Go.Proofs.YtgbdecnaamlekaaDoor.Bs Go.Proofs.YtgbdecnaamlekaaDoor.Bn Go.Proofs.YtgbdecnaamlekaaDoor.Na Go.Proofs.YtgbdecnaamlekaaDoor.Pn Go.Proofs.YtgbdecnaamlekaaDoor.Lw Go.Proofs.YtgbdecnaamlekaaDoor.Km Go.Proofs.YtgbdecnaamlekaaDoor.Kd Go.Proofs.YtgbdecnaamlekaaDoor.Ke Go.Proofs.YtgbdecnaamlekaaDoor.Kf Go.Proofs.YtgbdecnaamlekaaDoor.Kk Go.Proofs.YtgbdecnaamlekaaDoor.Ky

set_option maxRecDepth 100000 in
theorem walk (b : Bool) (k z : Int) (A1 : Option Addr) (n1 c1 : Nat) (f1 : Nat → Int) (A2 : Option Addr) (n2 c2 : Nat) (f2 : Nat → Int) (w : World) (_wk : (Lit.int .i64 k).wf = true) (_wz : (Lit.int .i64 z).wf = true)
    (_l1 : n1 ≤ 9223372036854775807) (_r1 : row w A1 n1 f1) (_l2 : n2 ≤ 9223372036854775807) (_r2 : row w A2 n2 f2) (_o : ordM w) :
    Calls Tryd.prog 7 #[.agg #[.bool b, .int .i64 k, .int .i64 z, .slice A1 n1 c1, .slice A2 n2 c2]] w fun e w' => e = .returned (.bool true) ∧ Below w.heap.size w w' := by
  clear _wk _wz _l1 _r1 _l2 _r2 _o
  have HL := fun u => Lib.hid (light_any b k z A1 n1 c1 A2 n2 c2 u)
  obtain ⟨lb, hlb⟩ : ∃ lb, lb = decide (n1 ≤ 400 ∧ n2 ≤ 400) := ⟨_, rfl⟩
  rw [← hlb] at HL
  clear hlb
  obtain ⟨w1, hw1⟩ : ∃ w1, w1 = w.alloc (.cells #[.bool b, .int .i64 k, .int .i64 z, .slice A1 n1 c1, .slice A2 n2 c2] 36) := ⟨_, rfl⟩
  have HB1 : Hid (Below w.heap.size w w1) := Lib.hid (by rw [hw1]; exact below_alloc _ _)
  have HX1 : Hid (Blk w1 w.heap.size 36 #[.bool b, .int .i64 k, .int .i64 z, .slice A1 n1 c1, .slice A2 n2 c2]) := Lib.hid (by rw [hw1]; exact Blk.fresh _ _ _)
  cases lb
  · go_enter Tryd.func7, Tryd.ntmps7
    go_wp2_with fail
    rw [← hw1]
    refine (HL w1).out.mono ?_
    rintro e w2 ⟨rfl, b2⟩
    have B2 := Lib.hid b2
    clear b2
    go_wp2_with fail
    refine (known_any w2).mono ?_
    rintro e w3 ⟨rfl, b3⟩
    have B3 := Lib.hid b3
    clear b3
    go_wp2
    go_ret
    exact ⟨rfl, grows (grows HB1.out B2.out) B3.out⟩
  · go_enter Tryd.func7, Tryd.ntmps7
    go_wp2_with fail
    rw [← hw1]
    refine (HL w1).out.mono ?_
    rintro e w2 ⟨rfl, b2⟩
    have B2 := Lib.hid b2
    clear b2
    go_wp2_with fail
    refine (Read_none (p := none) (fun o => noR_nil _)).mono ?_
    rintro e w3 ⟨rfl, b3⟩
    have B3 := Lib.hid b3
    clear b3
    obtain ⟨u3, hu3⟩ : ∃ u, u = (w3.alloc (.cells z5 33)).alloc (.cells #[.pointer none, .string ⟨#[]⟩, .int .i64 0] 61) := ⟨_, rfl⟩
    have U3 : Hid (Below w3.heap.size w3 u3) := Lib.hid (by rw [hu3]; exact grows (below_alloc _ _) (below_alloc _ _))
    have K3 : Hid (Blk u3 (w3.heap.size + 1) 61 #[.pointer none, .string ⟨#[]⟩, .int .i64 0]) := Lib.hid (by
      have := Blk.fresh (w3.alloc (.cells z5 33)) 61 #[.pointer none, .string ⟨#[]⟩, .int .i64 0]
      rw [size_alloc] at this
      rw [hu3]; exact this)
    go_wp2_with fail
    rw [← hu3]
    clear hu3
    refine (Read_none (fun o => noR_zero ((K3.out.below (below_alloc _ o)).cell 0))).mono ?_
    rintro e w4 ⟨rfl, b4⟩
    have B4 := Lib.hid b4
    clear b4
    obtain ⟨u4, hu4⟩ : ∃ u, u = w4.alloc (.cells z5 33) := ⟨_, rfl⟩
    have U4 : Hid (Below w4.heap.size w4 u4) := Lib.hid (by rw [hu4]; exact below_alloc _ _)
    have HX4 : Hid (Blk u4 w.heap.size 36 #[.bool b, .int .i64 k, .int .i64 z, .slice A1 n1 c1, .slice A2 n2 c2]) := Lib.hid (((((HX1.out.below B2.out).below B3.out).below U3.out).below B4.out).below U4.out)
    rw [hu4] at HX4 U4
    have q0 := HX4.out.cell 0
    have q1 := HX4.out.cell 1
    have q2 := HX4.out.cell 2
    have q3 := HX4.out.cell 3
    have q4 := HX4.out.cell 4
    clear hu4
    go_wp2_with fail
    refine (given_any b k z A1 n1 c1 A2 n2 c2 _).mono ?_
    rintro e w5 ⟨rfl, b5⟩
    have B5 := Lib.hid b5
    clear b5 q0 q1 q2 q3 q4
    go_wp2_with fail
    refine (Write_none b k z A1 n1 c1 A2 n2 c2 (fun o => none_nil _)).mono ?_
    rintro e w6 ⟨rfl, b6⟩
    have B6 := Lib.hid b6
    clear b6
    go_wp2_with fail
    refine (known_any w6).mono ?_
    rintro e w7 ⟨rfl, b7⟩
    have B7 := Lib.hid b7
    clear b7
    go_wp2
    go_ret
    exact ⟨rfl, grows (grows (grows (grows (grows (grows (grows (grows HB1.out B2.out) B3.out) U3.out) B4.out) U4.out) B5.out) B6.out) B7.out⟩
end Go.Proofs.YtgbdecnaamlekaaDoor.blockNil
