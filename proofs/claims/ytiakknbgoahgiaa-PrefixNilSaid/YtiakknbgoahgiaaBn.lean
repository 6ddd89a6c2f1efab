/-
  bitrow's methods of a reader or a writer that is not there, or that Open did not make: they answer ErrNil, 0, nothing, and change nothing.
-/
import Derived.Test.YtiakknbgoahgiaaBk
namespace Go.Proofs.Ytiakknbgoahgiaa.Bn
open Go.RowKit Go.Proofs.Ytiakknbgoahgiaa.Bt Go.Proofs.Ytiakknbgoahgiaa.Bw Go.Proofs.Ytiakknbgoahgiaa.Br Go.Proofs.Ytiakknbgoahgiaa.Bv

/-- A writer that is not there, or that Open did not make. -/
def none' (p : Option Addr) (w : World) : Prop := Calls Try.prog 39 #[.pointer p] w fun e w' => e = .returned (.bool true) ∧ w = w'
theorem none_nil (w : World) : none' none w := wNone_nil w
theorem none_zero {w : World} {g : Nat} {v : Value} {z : Nat} (h : Blk w g 74 #[.pointer none, v, .int .i64 z]) : none' (some ⟨g, 0, none⟩) w := by
  have c0 : w.cell? ⟨g, 0, none⟩ = some (.pointer none) := Blk.cell h 0
  have he := run_neq_nil (P := Try.prog) w ⟨g, 0, none⟩ Try.underlying44
  unfold none'
  go_enter Try.func39, Try.ntmps39
  go_wp2
  go_ret
  exact ⟨rfl, rfl⟩

section
variable (n : Int) (s : ByteArray) (p : Option Addr) (w : World)
theorem check_nil : Calls Try.prog 47 #[.pointer none, .int .i64 n] w fun e w' => e = .returned (.int .i64 25) ∧ w = w' := by
  go_enter Try.func47, Try.ntmps47
  go_wp2_with (go_at_call 35; refine (isNone_nil _).mono ?_; rintro e w' ⟨rfl, rfl⟩)
  go_ret
  exact ⟨rfl, rfl⟩
theorem Skip_nil : Calls Try.prog 31 #[.pointer none, .int .i64 n] w fun e w' => e = .returned (.int .i64 25) ∧ w = w' := by
  go_enter Try.func31, Try.ntmps31
  go_wp2_with (go_at_call 47; refine (check_nil _ _).mono ?_; rintro e w' ⟨rfl, rfl⟩)
  go_ret
  exact ⟨rfl, rfl⟩
theorem Peek_nil : Calls Try.prog 30 #[.pointer none, .int .i64 n] w fun e w' => e = .returned (.int .i64 0) ∧ w = w' := by
  go_enter Try.func30, Try.ntmps30
  go_wp2_with (go_at_call 35; refine (isNone_nil _).mono ?_; rintro e w' ⟨rfl, rfl⟩)
  go_ret
  exact ⟨rfl, rfl⟩
theorem At_nil : Calls Try.prog 16 #[.pointer none] w fun e w' => e = .returned (.int .i64 0) ∧ w = w' := by
  go_enter Try.func16, Try.ntmps16
  go_wp2_with (go_at_call 35; refine (isNone_nil _).mono ?_; rintro e w' ⟨rfl, rfl⟩)
  go_ret
  exact ⟨rfl, rfl⟩
theorem Left_nil : Calls Try.prog 32 #[.pointer none] w fun e w' => e = .returned (.int .i64 0) ∧ w = w' := by
  go_enter Try.func32, Try.ntmps32
  go_wp2_with (go_at_call 35; refine (isNone_nil _).mono ?_; rintro e w' ⟨rfl, rfl⟩)
  go_ret
  exact ⟨rfl, rfl⟩
theorem wLen_none (h : none' p w) : Calls Try.prog 20 #[.pointer p] w fun e w' => e = .returned (.int .i64 0) ∧ w = w' := by
  go_enter Try.func20, Try.ntmps20
  go_wp2_with (go_at_call 39; refine (h).mono ?_; rintro e w' ⟨rfl, rfl⟩)
  go_ret
  exact ⟨rfl, rfl⟩
theorem wText_none (h : none' p w) : Calls Try.prog 21 #[.pointer p] w fun e w' => e = .returned (.string ⟨#[]⟩) ∧ w = w' := by
  go_enter Try.func21, Try.ntmps21
  go_wp2_with (go_at_call 39; refine (h).mono ?_; rintro e w' ⟨rfl, rfl⟩)
  go_ret
  exact ⟨rfl, rfl⟩
theorem number_none1 (h : none' p w) : Calls Try.prog 49 #[.pointer p, .int .i64 n, .int .i64 n, .func (.func 50) #[.pointer p] #[]] w fun e w' => e = .returned (.int .i64 25) ∧ w = w' := by
  go_enter Try.func49, Try.ntmps49
  go_wp2_with (go_at_call 39; refine (h).mono ?_; rintro e w' ⟨rfl, rfl⟩)
  go_ret
  exact ⟨rfl, rfl⟩
theorem number_none2 (h : none' p w) : Calls Try.prog 49 #[.pointer p, .int .i64 n, .int .i64 n, .func (.func 51) #[.pointer p] #[]] w fun e w' => e = .returned (.int .i64 25) ∧ w = w' := by
  go_enter Try.func49, Try.ntmps49
  go_wp2_with (go_at_call 39; refine (h).mono ?_; rintro e w' ⟨rfl, rfl⟩)
  go_ret
  exact ⟨rfl, rfl⟩
theorem wPut_none (h : none' p w) : Calls Try.prog 36 #[.pointer p, .int .i64 n, .int .i64 n] w fun e w' => e = .returned (.int .i64 25) ∧ w = w' := by
  go_enter Try.func36, Try.ntmps36
  go_wp2_with (go_at_call 49; refine (number_none1 _ _ _ h).mono ?_; rintro e w' ⟨rfl, rfl⟩)
  go_ret
  exact ⟨rfl, rfl⟩
theorem wCode_none (h : none' p w) : Calls Try.prog 37 #[.pointer p, .int .i64 n, .int .i64 n] w fun e w' => e = .returned (.int .i64 25) ∧ w = w' := by
  go_enter Try.func37, Try.ntmps37
  go_wp2_with (go_at_call 49; refine (number_none2 _ _ _ h).mono ?_; rintro e w' ⟨rfl, rfl⟩)
  go_ret
  exact ⟨rfl, rfl⟩
end

end Go.Proofs.Ytiakknbgoahgiaa.Bn
