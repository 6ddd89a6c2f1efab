/-
  prefix's Read and Write where there is no table, no reader or no writer: they answer ErrNil; nothing that was there has changed.
  Conditions: as each theorem says.
-/
import Derived.Test.YtiakknbgoahgiaaPh
import Derived.Test.YtiakknbgoahgiaaBn
namespace Go.Proofs.Ytiakknbgoahgiaa.Pn
open Go.RowKit Go.Proofs.Ytiakknbgoahgiaa.Vm Go.Proofs.Ytiakknbgoahgiaa.Bm Go.Proofs.Ytiakknbgoahgiaa.Bt Go.Proofs.Ytiakknbgoahgiaa.Bw Go.Proofs.Ytiakknbgoahgiaa.Br Go.Proofs.Ytiakknbgoahgiaa.Bp Go.Proofs.Ytiakknbgoahgiaa.Bs Go.Proofs.Ytiakknbgoahgiaa.Bn Go.Proofs.Ytiakknbgoahgiaa.Na Go.Proofs.Ytiakknbgoahgiaa.Nm Go.Proofs.Ytiakknbgoahgiaa.Nw Go.Proofs.Ytiakknbgoahgiaa.Pm Go.Proofs.Ytiakknbgoahgiaa.Pd Go.Proofs.Ytiakknbgoahgiaa.Pg Go.Proofs.Ytiakknbgoahgiaa.Ph

/-- A reader that is not there, or that bitrow did not make. -/
def noR (p : Option Addr) (w : World) : Prop := Calls Try.prog 35 #[.pointer p] w fun e w' => e = .returned (.bool true) ∧ w = w'
theorem noR_nil (w : World) : noR none w := isNone_nil w
theorem noR_zero {w : World} {g : Nat} (c0 : w.cell? ⟨g, 0, none⟩ = some (.pointer none)) : noR (some ⟨g, 0, none⟩) w := by
  have he := run_neq_nil (P := Try.prog) w ⟨g, 0, none⟩ Try.underlying31
  unfold noR
  go_enter Try.func35, Try.ntmps35
  go_wp2
  go_ret
  exact ⟨rfl, rfl⟩
theorem check_none {p : Option Addr} {w : World} (n : Int) (h : noR p w) : Calls Try.prog 47 #[.pointer p, .int .i64 n] w fun e w' => e = .returned (.int .i64 25) ∧ w = w' := by
  go_enter Try.func47, Try.ntmps47
  go_wp2_with (go_at_call 35; refine (h).mono ?_; rintro e w' ⟨rfl, rfl⟩)
  go_ret
  exact ⟨rfl, rfl⟩
theorem Skip_none {p : Option Addr} {w : World} (n : Int) (h : noR p w) : Calls Try.prog 31 #[.pointer p, .int .i64 n] w fun e w' => e = .returned (.int .i64 25) ∧ w = w' := by
  go_enter Try.func31, Try.ntmps31
  go_wp2_with (go_at_call 47; refine (check_none _ h).mono ?_; rintro e w' ⟨rfl, rfl⟩)
  go_ret
  exact ⟨rfl, rfl⟩
theorem Peek_none {p : Option Addr} {w : World} (n : Int) (h : noR p w) : Calls Try.prog 30 #[.pointer p, .int .i64 n] w fun e w' => e = .returned (.int .i64 0) ∧ w = w' := by
  go_enter Try.func30, Try.ntmps30
  go_wp2_with (go_at_call 35; refine (h).mono ?_; rintro e w' ⟨rfl, rfl⟩)
  go_ret
  exact ⟨rfl, rfl⟩

/-- A table that is not there, or that New did not make. -/
def noT (p : Option Addr) (w : World) : Prop := Calls Try.prog 28 #[.pointer p] w fun e w' => e = .returned (.bool true) ∧ w = w'
theorem Read_noT {p : Option Addr} {w : World} (v : Value) (h : noT p w) : Calls Try.prog 14 #[.pointer p, v] w fun e w' => e = .returned (.tuple #[.int .i64 0, .int .i64 25]) ∧ w = w' := by
  go_enter Try.func14, Try.ntmps14
  go_wp2_with (go_at_call 28; refine (h).mono ?_; rintro e w' ⟨rfl, rfl⟩)
  go_ret2
  exact ⟨rfl, rfl⟩
theorem peek0 : peekN 0 0 15 = 0 := by decide
set_option maxHeartbeats 1000000 in
set_option maxRecDepth 100000 in
theorem Read_noR {p : Option Addr} {w : World} {g n : Nat} {l : List Nat} (h15 : ∀ i, nth l i ≤ 15) (hks : ksum l 16 ≤ 32768) (hl : l.length ≤ 320) (hn : n = l.length) (ht : tabl w g n l) (h : ∀ w', Below w.heap.size w w' → noR p w') :
    Calls Try.prog 14 #[.pointer (some ⟨g, 0, none⟩), .pointer p] w fun e w' => e = .returned (.tuple #[.int .i64 0, .int .i64 25]) ∧ Below w.heap.size w w' := by
  obtain ⟨c, d, te, hF⟩ := find_tells h15 hks hl hn ht 0 0 0
  rw [peek0] at hF
  have hc15 := te.c15
  have hd3 := te.d3
  have HF : Hid (Calls Try.prog 29 #[.pointer (some ⟨g, 0, none⟩), .int .i64 0] w fun e w'' => e = .returned (.agg #[.int .u16 c, .int .u16 d]) ∧ Below w.heap.size w w'') := Lib.hid (hF w (Below.refl _ _))
  have HN : Hid (Calls Try.prog 28 #[.pointer (some ⟨g, 0, none⟩)] w fun e w' => e = .returned (.bool false) ∧ w = w') := by
    obtain ⟨base, F, v, bs, G, hb, _⟩ := ht
    exact Lib.hid (pNone_any hb.c0)
  have H := Lib.hid h
  clear te hF ht h h15 hks hl hn
  go_enter Try.func14, Try.ntmps14
  go_wp2_with fail
  refine HN.out.mono ?_
  rintro e w' ⟨rfl, rfl⟩
  go_wp2_with fail
  refine (Peek_none _ (H.out _ (Below.refl _ _))).mono ?_
  rintro e w' ⟨rfl, rfl⟩
  go_wp2_with fail
  refine HF.out.mono ?_
  rintro e w1 ⟨rfl, b1⟩
  have B1 := Lib.hid b1
  clear b1
  go_wp2_with fail
  refine (Skip_none _ (H.out _ (grows B1.out (below_alloc _ _)))).mono ?_
  rintro e w' ⟨rfl, rfl⟩
  go_wp2
  go_ret2
  exact ⟨rfl, grows B1.out (below_alloc _ _)⟩
theorem Write_none {w : World} (v : Value) (y : Int) : Calls Try.prog 18 #[.pointer none, v, .int .i64 y] w fun e w' => e = .returned (.int .i64 25) ∧ w = w' := by
  go_enter Try.func18, Try.ntmps18
  go_wp2_with (go_at_call 36; refine (wPut_none 0 none _ (none_nil _)).mono ?_; rintro e w' ⟨rfl, rfl⟩)
  go_ret
  exact ⟨rfl, rfl⟩
end Go.Proofs.Ytiakknbgoahgiaa.Pn
