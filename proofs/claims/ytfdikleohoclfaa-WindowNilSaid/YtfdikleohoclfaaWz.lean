/-
  window: the methods of a window that is not there.
  Conditions: as each theorem says.
-/
import Derived.Test.YtfdikleohoclfaaWw
namespace Go.Proofs.Ytfdikleohoclfaa.Wz
open Go.RowKit Go.Proofs.Ytfdikleohoclfaa.Vm Go.Proofs.Ytfdikleohoclfaa.Bw Go.Proofs.Ytfdikleohoclfaa.Br Go.Proofs.Ytfdikleohoclfaa.Ww

/-- No window: nil, or one that New did not return. -/
def nowin (w : World) (P : Option Addr) : Prop := Calls Try.prog 20 #[.pointer P] w fun e w' => e = .returned (.bool true) ∧ w = w'
theorem nowin_nil (w : World) : nowin w none := none_nil w
theorem nowin_zero {w : World} {g : Nat} (c0 : w.cell? ⟨g, 0, none⟩ = some (.pointer none)) : nowin w (some ⟨g, 0, none⟩) := none_zero c0

theorem zPut {w : World} {P : Option Addr} (h : nowin w P) (s : ByteArray) : Calls Try.prog 12 #[.pointer P, .string s] w fun e w' => e = .returned (.tuple #[]) ∧ w = w' := by
  have hN := Lib.hid h
  clear h
  go_enter Try.func12, Try.ntmps12
  go_wp2_with (go_at_call 20; refine hN.out.mono ?_; rintro e w' ⟨rfl, rfl⟩)
  exact bodyPost_ret (results_none rfl _ _ _) rfl ⟨rfl, rfl⟩
theorem zClear {w : World} {P : Option Addr} (h : nowin w P) : Calls Try.prog 17 #[.pointer P] w fun e w' => e = .returned (.tuple #[]) ∧ w = w' := by
  have hN := Lib.hid h
  clear h
  go_enter Try.func17, Try.ntmps17
  go_wp2_with (go_at_call 20; refine hN.out.mono ?_; rintro e w' ⟨rfl, rfl⟩)
  exact bodyPost_ret (results_none rfl _ _ _) rfl ⟨rfl, rfl⟩
theorem zCopy {w : World} {P : Option Addr} (h : nowin w P) (d n : Int) : Calls Try.prog 13 #[.pointer P, .int .i64 d, .int .i64 n] w fun e w' => e = .returned (.tuple #[.string ⟨#[]⟩, .int .i64 25]) ∧ w = w' := by
  have hN := Lib.hid h
  clear h
  go_enter Try.func13, Try.ntmps13
  go_wp2_with (go_at_call 20; refine hN.out.mono ?_; rintro e w' ⟨rfl, rfl⟩)
  go_ret2
  exact ⟨rfl, rfl⟩
theorem zLen {w : World} {P : Option Addr} (h : nowin w P) : Calls Try.prog 19 #[.pointer P] w fun e w' => e = .returned (.int .i64 0) ∧ w = w' := by
  have hN := Lib.hid h
  clear h
  go_enter Try.func19, Try.ntmps19
  go_wp2_with (go_at_call 20; refine hN.out.mono ?_; rintro e w' ⟨rfl, rfl⟩)
  go_ret
  exact ⟨rfl, rfl⟩
theorem zLast {w : World} {P : Option Addr} (h : nowin w P) (n : Int) : Calls Try.prog 15 #[.pointer P, .int .i64 n] w fun e w' => e = .returned (.string ⟨#[]⟩) ∧ w = w' := by
  have hN := Lib.hid h
  clear h
  go_enter Try.func15, Try.ntmps15
  go_wp2_with (go_at_call 20; refine hN.out.mono ?_; rintro e w' ⟨rfl, rfl⟩)
  go_ret
  exact ⟨rfl, rfl⟩
theorem zTwin {w : World} {P : Option Addr} (h : nowin w P) : Calls Try.prog 18 #[.pointer P] w fun e w' => e = .returned (.pointer none) ∧ w = w' := by
  have hN := Lib.hid h
  clear h
  go_enter Try.func18, Try.ntmps18
  go_wp2_with (go_at_call 20; refine hN.out.mono ?_; rintro e w' ⟨rfl, rfl⟩)
  go_ret
  exact ⟨rfl, rfl⟩
end Go.Proofs.Ytfdikleohoclfaa.Wz
