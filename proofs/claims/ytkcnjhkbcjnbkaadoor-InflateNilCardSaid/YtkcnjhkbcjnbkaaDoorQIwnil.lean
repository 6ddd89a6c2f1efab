/-
  InflateNil: a machine that is not there makes nothing.
  Conditions: none.
  The walk of the call.
-/
import Derived.Test.YtkcnjhkbcjnbkaaDoorQbf
import Derived.Test.YtkcnjhkbcjnbkaaDoorQbi
import Derived.Test.YtkcnjhkbcjnbkaaDoorQal
import Derived.Test.YtkcnjhkbcjnbkaaDoorQam
namespace Go.Proofs.YtkcnjhkbcjnbkaaDoor.inflateNil
open Go.RowKit
open Go.Proofs.YtkcnjhkbcjnbkaaDoor.Bw Go.Proofs.YtkcnjhkbcjnbkaaDoor.Lw Go.Proofs.YtkcnjhkbcjnbkaaDoor.Ky Go.Proofs.YtkcnjhkbcjnbkaaDoor.Ip Go.Proofs.YtkcnjhkbcjnbkaaDoor.Iq

set_option maxRecDepth 100000 in
theorem walk (n : Int) (w : World) (_wn : (Lit.int .i64 n).wf = true) (hO : ordM w) :
    Calls Tryd.prog 6 #[.int .i64 n] w fun e w' => e = .returned (.bool true) ∧ Below w.heap.size w w' := by
  clear _wn
  obtain ⟨w1, hw1⟩ : ∃ w1, w1 = w.alloc (.cells #[.pointer none, .pointer none, .pointer none, .slice none 0 0, .int .i64 0, .slice none 0 0, .int .i64 0, .nilFunc, .bool false, .int .i64 0, .pointer none, .pointer none] 51) := ⟨_, rfl⟩
  obtain ⟨g, hg⟩ : ∃ g, g = w.heap.size := ⟨_, rfl⟩
  have B1 : Hid (Below w.heap.size w w1) := Lib.hid (by rw [hw1]; exact (Below.refl _ w).alloc (Nat.le_refl _) _)
  have h0 : nomach w1 (.pointer none) := .inl rfl
  have h1 : nomach w1 (.pointer (some ⟨g, 0, none⟩)) := .inr ⟨g, rfl, by rw [hw1, hg]; exact (Blk.fresh w _ _).cell 0⟩
  have HK := Lib.hid (known_any w1 (hO.below B1.out))
  have A0 := Lib.hid (noStep h0 n)
  have A1 := Lib.hid (noStep h1 n)
  have C0 := Lib.hid (noOut h0)
  have C1 := Lib.hid (noOut h1)
  have D0 := Lib.hid (noDone h0)
  have D1 := Lib.hid (noDone h1)
  have E0 := Lib.hid (noStarts h0)
  have F0 := Lib.hid (noEnd h0)
  have F1 := Lib.hid (noEnd h1)
  have G0 := Lib.hid (noCopy h0)
  have G1 := Lib.hid (noCopy h1)
  clear h0 h1 hO
  go_enter Tryd.func6, Tryd.ntmps6
  go_wp2_with fail
  rw [← hw1, ← hg]
  clear hw1 hg
  refine A0.out.mono ?_
  rintro e w' ⟨rfl, rfl⟩
  go_wp2_with fail
  refine A1.out.mono ?_
  rintro e w' ⟨rfl, rfl⟩
  go_wp2_with fail
  refine C0.out.mono ?_
  rintro e w' ⟨rfl, rfl⟩
  go_wp2_with fail
  refine C1.out.mono ?_
  rintro e w' ⟨rfl, rfl⟩
  go_wp2_with fail
  refine D0.out.mono ?_
  rintro e w' ⟨rfl, rfl⟩
  go_wp2_with fail
  refine D1.out.mono ?_
  rintro e w' ⟨rfl, rfl⟩
  go_wp2_with fail
  refine E0.out.mono ?_
  rintro e w' ⟨rfl, rfl⟩
  go_wp2_with fail
  refine F0.out.mono ?_
  rintro e w' ⟨rfl, rfl⟩
  go_wp2_with fail
  refine F1.out.mono ?_
  rintro e w' ⟨rfl, rfl⟩
  go_wp2_with fail
  refine G0.out.mono ?_
  rintro e w' ⟨rfl, rfl⟩
  go_wp2_with fail
  refine G1.out.mono ?_
  rintro e w' ⟨rfl, rfl⟩
  go_wp2_with fail
  refine HK.out.mono ?_
  rintro e w2 ⟨rfl, b2⟩
  go_wp2
  go_ret
  exact ⟨rfl, grows B1.out b2⟩
end Go.Proofs.YtkcnjhkbcjnbkaaDoor.inflateNil
