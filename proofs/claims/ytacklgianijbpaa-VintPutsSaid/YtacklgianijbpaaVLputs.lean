/-
  collimatorlaw01.VintPuts returns true for every number and every width: a varint and a fixed number are laid down as the document's own functions lay them down, or refused.
  Conditions: none.
-/
import Derived.Test.YtacklgianijbpaaVy
import Derived.Test.YtacklgianijbpaaLw
namespace Go.Proofs.Ytacklgianijbpaa.vintPuts
open Go.ChangeShapes Go.WideShapes Go.ChangeAt Go.RowKit
open Go.Proofs.Ytacklgianijbpaa.Lw Go.Proofs.Ytacklgianijbpaa.Vm Go.Proofs.Ytacklgianijbpaa.Vo Go.Proofs.Ytacklgianijbpaa.Vw Go.Proofs.Ytacklgianijbpaa.Vf Go.Proofs.Ytacklgianijbpaa.Vk Go.Proofs.Ytacklgianijbpaa.Vz Go.Proofs.Ytacklgianijbpaa.Vy

theorem own : ownKnob Try.prog.godebug = none := by kernel_rfl
theorem laidOut : laidOutB Try.prog = true := by kernel_rfl

set_option maxRecDepth 100000 in
theorem walk (n W : Int) (w0 : (Lit.int .i64 n).wf = true) (w : World) :
    Calls Try.prog 3 #[.int .i64 n, .int .i64 W] w fun e w' => e = .returned (.bool true) ∧ Below w.heap.size w w' := by
  have hn : -9223372036854775808 ≤ n ∧ n ≤ 9223372036854775807 := by simpa [Lit.wf, IntKind.min, IntKind.max, IntKind.signed, IntKind.bits] using w0
  go_enter Try.func3, Try.ntmps3
  go_wp2_with fail
  refine (Put_any _ _ (by omega)).mono ?_
  rintro e w1 ⟨rfl, b1⟩
  generalize hP : putR n = P at *
  have HP := Lib.hid hP
  clear hP
  go_wp2_with fail
  refine (rPut_any _ _ (by omega)).mono ?_
  rintro e w2 ⟨rfl, b2⟩
  rw [HP.out]
  go_wp2_with fail
  refine (Fixed_any _ _ _ (by omega)).mono ?_
  rintro e w3 ⟨rfl, b3⟩
  generalize hF : fixR n W = F at *
  have HF := Lib.hid hF
  clear hF
  go_wp2_with fail
  refine (rFixed_any _ _ _ (by omega)).mono ?_
  rintro e w4 ⟨rfl, b4⟩
  rw [HF.out]
  go_wp2_with (go_at_call 12; refine (known_any _).mono ?_; rintro e w' ⟨rfl, hb⟩)
  go_ret
  exact ⟨rfl, grows (grows (grows (grows b1 b2) b3) b4) hb⟩

set_option maxRecDepth 100000 in
theorem lifted (os : Os) (started : os.Started) (H : Type) (enc : TypeId × Value → H) :
    ReturnsInHanded {} Try.checked os 3 .any (Rows.vintPutsSpec.pre6 enc Try.prog Try.f3 Rows.vintPutsRow.domain false) (Rows.vintPutsSpec.post enc Try.prog Try.f3 false true false false) := by
  refine returnsInHanded_of_change (C := Try.checked) own started (by kernel_rfl) Try.func3
    (ChangeSpec.witness6 (enc := enc) (C := Try.checked) false ⟨#[], #[.int .i64 0, .int .i64 0], []⟩ 8 (by kernel_rfl) (by kernel_rfl) (by kernel_rfl) (by kernel_rfl)) ?_
  intro W base args ds gs before hval0 hW _ _
  have hval : ∀ (j : Nat) t v, Try.f3.params[j]? = some t → args[j]? = some v → Value.okWide Try.prog W .any base t v := hval0
  have hW' := hW
  obtain ⟨p, q, hA0, hV, rfl, hfz, hnd⟩ := hW
  have hA : DataW.TrodAll enc Try.prog W 0 (fun _ => true) true Try.f3.params.toList args.toList ds p := hA0
  rw [Try.params3] at hA hval
  obtain ⟨v0, vs0, d0, ds0, p0, q0, hargs, rfl, rfl, h0, r0⟩ := trodAll_cons hA
  obtain ⟨v1, vs1, d1, ds1, p1, q1, rfl, rfl, rfl, h1, r1⟩ := trodAll_cons r0
  obtain ⟨rfl, rfl, rfl⟩ := trodAll_nil r1
  obtain rfl : args = #[v0, v1] := by cases args; simp_all
  obtain ⟨rfl, rfl⟩ := trodVars_none hV
  obtain ⟨a0, rfl, rfl, rfl, w0⟩ := open_int Try.underlying3 (hval 0 3 v0 rfl rfl) h0
  obtain ⟨a1, rfl, rfl, rfl, w1⟩ := open_int Try.underlying3 (hval 1 3 v1 rfl rfl) h1
  refine (walk a0 a1 w0 W).mono fun e W' ⟨he, hb⟩ => ?_
  subst he
  exact ⟨_, rfl, law_post (P := Try.prog) (f := Try.f3) laidOut (by kernel_rfl) (by kernel_rfl) Try.underlying4 rfl hW' rfl hb⟩

theorem proved : Rows.VintPutsSaid :=
  OpenClaim.holds_of_wide 3 Try.f3 rfl rfl rfl rfl rfl rfl rfl ⟨rfl, rfl, rfl, rfl, rfl⟩ rfl rfl rfl rfl rfl (by kernel_rfl) Try.func3 (by kernel_rfl)
    (of_decide_eq_true (by kernel_rfl)) (by unfold Func.isWrapper; first | (rw [if_pos (by decide +kernel)]; kernel_rfl) | (rw [if_neg (by decide +kernel)]; exact ⟨rfl, rfl⟩))
    (fun os started H enc _ => lifted os started H enc)
#print axioms proved
end Go.Proofs.Ytacklgianijbpaa.vintPuts
