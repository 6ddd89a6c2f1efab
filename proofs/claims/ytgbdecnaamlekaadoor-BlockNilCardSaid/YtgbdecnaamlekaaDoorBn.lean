/-
  bitrow's methods of a reader or a writer that is not there, or that Open did not make: they answer ErrNil, 0, nothing, and change nothing.
-/
import Derived.Test.YtgbdecnaamlekaaDoorBk
namespace Go.Proofs.YtgbdecnaamlekaaDoor.Bn
open Go.RowKit Go.Proofs.YtgbdecnaamlekaaDoor.Bt Go.Proofs.YtgbdecnaamlekaaDoor.Bw Go.Proofs.YtgbdecnaamlekaaDoor.Br Go.Proofs.YtgbdecnaamlekaaDoor.Bv

/-- A writer that is not there, or that Open did not make. -/
def none' (p : Option Addr) (w : World) : Prop := Calls Tryd.prog 49 #[.pointer p] w fun e w' => e = .returned (.bool true) ∧ w = w'
theorem none_nil (w : World) : none' none w := wNone_nil w
theorem none_zero {w : World} {g : Nat} {v : Value} {z : Nat} (h : Blk w g 68 #[.pointer none, v, .int .i64 z]) : none' (some ⟨g, 0, none⟩) w := by
  have c0 : w.cell? ⟨g, 0, none⟩ = some (.pointer none) := Blk.cell h 0
  have he := run_neq_nil (P := Tryd.prog) w ⟨g, 0, none⟩ Tryd.underlying46
  unfold none'
  go_enter Tryd.func49, Tryd.ntmps49
  go_wp2
  go_ret
  exact ⟨rfl, rfl⟩

section
variable (n : Int) (s : ByteArray) (p : Option Addr) (w : World)
theorem check_nil : Calls Tryd.prog 68 #[.pointer none, .int .i64 n] w fun e w' => e = .returned (.int .i64 25) ∧ w = w' := by
  go_enter Tryd.func68, Tryd.ntmps68
  go_wp2_with (go_at_call 38; refine (isNone_nil _).mono ?_; rintro e w' ⟨rfl, rfl⟩)
  go_ret
  exact ⟨rfl, rfl⟩
theorem Bits_nil : Calls Tryd.prog 53 #[.pointer none, .int .i64 n] w fun e w' => e = .returned (.tuple #[.int .i64 0, .int .i64 25]) ∧ w = w' := by
  go_enter Tryd.func53, Tryd.ntmps53
  go_wp2_with (go_at_call 68; refine (check_nil _ _).mono ?_; rintro e w' ⟨rfl, rfl⟩)
  go_ret2
  exact ⟨rfl, rfl⟩
theorem Skip_nil : Calls Tryd.prog 56 #[.pointer none, .int .i64 n] w fun e w' => e = .returned (.int .i64 25) ∧ w = w' := by
  go_enter Tryd.func56, Tryd.ntmps56
  go_wp2_with (go_at_call 68; refine (check_nil _ _).mono ?_; rintro e w' ⟨rfl, rfl⟩)
  go_ret
  exact ⟨rfl, rfl⟩
theorem Peek_nil : Calls Tryd.prog 69 #[.pointer none, .int .i64 n] w fun e w' => e = .returned (.int .i64 0) ∧ w = w' := by
  go_enter Tryd.func69, Tryd.ntmps69
  go_wp2_with (go_at_call 38; refine (isNone_nil _).mono ?_; rintro e w' ⟨rfl, rfl⟩)
  go_ret
  exact ⟨rfl, rfl⟩
theorem Align_nil : Calls Tryd.prog 70 #[.pointer none] w fun e w' => e = .returned (.tuple #[]) ∧ w = w' := by
  go_enter Tryd.func70, Tryd.ntmps70
  go_wp2_with (go_at_call 38; refine (isNone_nil _).mono ?_; rintro e w' ⟨rfl, rfl⟩)
  refine bodyPost_ret (results_none rfl _ _ _) rfl ?_
  exact ⟨rfl, rfl⟩
theorem At_nil : Calls Tryd.prog 16 #[.pointer none] w fun e w' => e = .returned (.int .i64 0) ∧ w = w' := by
  go_enter Tryd.func16, Tryd.ntmps16
  go_wp2_with (go_at_call 38; refine (isNone_nil _).mono ?_; rintro e w' ⟨rfl, rfl⟩)
  go_ret
  exact ⟨rfl, rfl⟩
theorem Left_nil : Calls Tryd.prog 102 #[.pointer none] w fun e w' => e = .returned (.int .i64 0) ∧ w = w' := by
  go_enter Tryd.func102, Tryd.ntmps102
  go_wp2_with (go_at_call 38; refine (isNone_nil _).mono ?_; rintro e w' ⟨rfl, rfl⟩)
  go_ret
  exact ⟨rfl, rfl⟩
theorem Copy_nil : Calls Tryd.prog 33 #[.pointer none] w fun e w' => e = .returned (.pointer none) ∧ w = w' := by
  go_enter Tryd.func33, Tryd.ntmps33
  go_wp2_with (go_at_call 38; refine (isNone_nil _).mono ?_; rintro e w' ⟨rfl, rfl⟩)
  go_ret
  exact ⟨rfl, rfl⟩
theorem wAlign_none (h : none' p w) : Calls Tryd.prog 62 #[.pointer p] w fun e w' => e = .returned (.tuple #[]) ∧ w = w' := by
  go_enter Tryd.func62, Tryd.ntmps62
  go_wp2_with (go_at_call 49; refine (h).mono ?_; rintro e w' ⟨rfl, rfl⟩)
  refine bodyPost_ret (results_none rfl _ _ _) rfl ?_
  exact ⟨rfl, rfl⟩
theorem wLen_none (h : none' p w) : Calls Tryd.prog 24 #[.pointer p] w fun e w' => e = .returned (.int .i64 0) ∧ w = w' := by
  go_enter Tryd.func24, Tryd.ntmps24
  go_wp2_with (go_at_call 49; refine (h).mono ?_; rintro e w' ⟨rfl, rfl⟩)
  go_ret
  exact ⟨rfl, rfl⟩
theorem wText_none (h : none' p w) : Calls Tryd.prog 25 #[.pointer p] w fun e w' => e = .returned (.string ⟨#[]⟩) ∧ w = w' := by
  go_enter Tryd.func25, Tryd.ntmps25
  go_wp2_with (go_at_call 49; refine (h).mono ?_; rintro e w' ⟨rfl, rfl⟩)
  go_ret
  exact ⟨rfl, rfl⟩
theorem number_none1 (h : none' p w) : Calls Tryd.prog 39 #[.pointer p, .int .i64 n, .int .i64 n, .func (.func 40) #[.pointer p] #[]] w fun e w' => e = .returned (.int .i64 25) ∧ w = w' := by
  go_enter Tryd.func39, Tryd.ntmps39
  go_wp2_with (go_at_call 49; refine (h).mono ?_; rintro e w' ⟨rfl, rfl⟩)
  go_ret
  exact ⟨rfl, rfl⟩
theorem number_none2 (h : none' p w) : Calls Tryd.prog 39 #[.pointer p, .int .i64 n, .int .i64 n, .func (.func 95) #[.pointer p] #[]] w fun e w' => e = .returned (.int .i64 25) ∧ w = w' := by
  go_enter Tryd.func39, Tryd.ntmps39
  go_wp2_with (go_at_call 49; refine (h).mono ?_; rintro e w' ⟨rfl, rfl⟩)
  go_ret
  exact ⟨rfl, rfl⟩
theorem wPut_none (h : none' p w) : Calls Tryd.prog 19 #[.pointer p, .int .i64 n, .int .i64 n] w fun e w' => e = .returned (.int .i64 25) ∧ w = w' := by
  go_enter Tryd.func19, Tryd.ntmps19
  go_wp2_with (go_at_call 39; refine (number_none1 _ _ _ h).mono ?_; rintro e w' ⟨rfl, rfl⟩)
  go_ret
  exact ⟨rfl, rfl⟩
theorem wCode_none (h : none' p w) : Calls Tryd.prog 80 #[.pointer p, .int .i64 n, .int .i64 n] w fun e w' => e = .returned (.int .i64 25) ∧ w = w' := by
  go_enter Tryd.func80, Tryd.ntmps80
  go_wp2_with (go_at_call 39; refine (number_none2 _ _ _ h).mono ?_; rintro e w' ⟨rfl, rfl⟩)
  go_ret
  exact ⟨rfl, rfl⟩
end

end Go.Proofs.YtgbdecnaamlekaaDoor.Bn
