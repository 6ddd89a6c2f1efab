/-
  The document's own answers for the package vint (the verifier's functions), called with any values: they are the same plain functions.
  Conditions: as each theorem says.
-/
import Derived.Test.YtgilfjojimgpaaaVk
namespace Go.Proofs.Ytgilfjojimgpaaa.Vz
open Go.RowKit Go.Proofs.Ytgilfjojimgpaaa.Vm Go.Proofs.Ytgilfjojimgpaaa.Vo Go.Proofs.Ytgilfjojimgpaaa.Vw Go.Proofs.Ytgilfjojimgpaaa.Vb Go.Proofs.Ytgilfjojimgpaaa.Vg Go.Proofs.Ytgilfjojimgpaaa.Vf Go.Proofs.Ytgilfjojimgpaaa.Vn Go.Proofs.Ytgilfjojimgpaaa.Vt Go.Proofs.Ytgilfjojimgpaaa.Vk Go.PlainAid

theorem wide_any (n : Int) (w : World) :
    Calls Try.prog 42 #[.int .i64 n] w fun e w' => e = .returned (.bool (wid n)) ∧ w = w' := by
  go_enter Try.func42, Try.ntmps42
  go_wp2
  all_goals go_ret
  all_goals exact ⟨by simp [wid, *], rfl⟩

end Go.Proofs.Ytgilfjojimgpaaa.Vz
