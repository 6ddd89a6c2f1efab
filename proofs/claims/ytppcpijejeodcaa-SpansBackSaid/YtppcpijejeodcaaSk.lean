/-
  collimatorlaw08.known: what must come of fixed calls.
  Conditions: none.
-/
import Derived.Test.YtppcpijejeodcaaSr
namespace Go.Proofs.Ytppcpijejeodcaa.Sk
open Go.RowKit Go.Proofs.Ytppcpijejeodcaa.Vm Go.Proofs.Ytppcpijejeodcaa.Na Go.Proofs.Ytppcpijejeodcaa.Bw Go.Proofs.Ytppcpijejeodcaa.Sm Go.Proofs.Ytppcpijejeodcaa.Sb Go.Proofs.Ytppcpijejeodcaa.Sp

theorem len_shape (z : Int) : ∃ (a b : Int) (c : Bool), lenA z = .tuple #[.int .i64 a, .int .i64 b, .bool c] := by
  unfold lenA; split <;> exact ⟨_, _, _, rfl⟩
theorem dis_shape (z : Int) : ∃ (a b : Int) (c : Bool), disA z = .tuple #[.int .i64 a, .int .i64 b, .bool c] := by
  unfold disA; split <;> exact ⟨_, _, _, rfl⟩
theorem ofL_shape (z : Int) : ∃ (a b c d : Int), ofL z = .tuple #[.int .i64 a, .int .i64 b, .int .i64 c, .int .i64 d] := by
  unfold ofL; split <;> exact ⟨_, _, _, _, rfl⟩
theorem ofD_shape (z : Int) : ∃ (a b c d : Int), ofD z = .tuple #[.int .i64 a, .int .i64 b, .int .i64 c, .int .i64 d] := by
  unfold ofD; split <;> exact ⟨_, _, _, _, rfl⟩
theorem k1 : ofL 12 = .tuple #[.int .i64 265, .int .i64 1, .int .i64 1, .int .i64 0] := by kernel_rfl
theorem k2 : ofL 258 = .tuple #[.int .i64 285, .int .i64 0, .int .i64 0, .int .i64 0] := by kernel_rfl
theorem k3 : ofD 32768 = .tuple #[.int .i64 29, .int .i64 13, .int .i64 8191, .int .i64 0] := by kernel_rfl
theorem k4 : lenA 284 = .tuple #[.int .i64 227, .int .i64 5, .bool true] := by kernel_rfl

set_option maxRecDepth 100000 in
theorem known_any (w : World) :
    Calls Try.prog 11 #[] w fun e w' => e = .returned (.bool true) ∧ Below w.heap.size w w' := by
  have H1 := Lib.hid (k1 ▸ OfLength_any (z := 12) (by omega) (by omega))
  have H2 := Lib.hid (k2 ▸ OfLength_any (z := 258) (by omega) (by omega))
  have H3 := Lib.hid (k3 ▸ OfDist_any (z := 32768) (by omega) (by omega))
  have H4 := Lib.hid (k4 ▸ Length_any (z := 284) (by omega) (by omega))
  go_enter Try.func11, Try.ntmps11
  go_wp2_with fail
  refine (H1.out _).mono ?_
  rintro e w1 ⟨rfl, b1⟩
  go_wp2_with fail
  refine (H2.out _).mono ?_
  rintro e w2 ⟨rfl, b2⟩
  go_wp2_with fail
  refine (H3.out _).mono ?_
  rintro e w3 ⟨rfl, b3⟩
  go_wp2_with fail
  refine (H4.out _).mono ?_
  rintro e w4 ⟨rfl, b4⟩
  go_wp2
  go_ret
  exact ⟨rfl, grows b1 (grows b2 (grows b3 b4))⟩
end Go.Proofs.Ytppcpijejeodcaa.Sk
