/-
  prefix's Read and Write where there is no table, no reader or no writer: they answer ErrNil; nothing that was there has changed.
  Conditions: as each theorem says.
-/
import Derived.Test.YtgbdecnaamlekaaDoorPh
import Derived.Test.YtgbdecnaamlekaaDoorBn
namespace Go.Proofs.YtgbdecnaamlekaaDoor.Pn
open Go.RowKit Go.Proofs.YtgbdecnaamlekaaDoor.Vm Go.Proofs.YtgbdecnaamlekaaDoor.Bm Go.Proofs.YtgbdecnaamlekaaDoor.Bt Go.Proofs.YtgbdecnaamlekaaDoor.Bw Go.Proofs.YtgbdecnaamlekaaDoor.Br Go.Proofs.YtgbdecnaamlekaaDoor.Bp Go.Proofs.YtgbdecnaamlekaaDoor.Bs Go.Proofs.YtgbdecnaamlekaaDoor.Bn Go.Proofs.YtgbdecnaamlekaaDoor.Na Go.Proofs.YtgbdecnaamlekaaDoor.Nm Go.Proofs.YtgbdecnaamlekaaDoor.Nw Go.Proofs.YtgbdecnaamlekaaDoor.Pm Go.Proofs.YtgbdecnaamlekaaDoor.Pd Go.Proofs.YtgbdecnaamlekaaDoor.Pg Go.Proofs.YtgbdecnaamlekaaDoor.Ph

/-- A reader that is not there, or that bitrow did not make. -/
def noR (p : Option Addr) (w : World) : Prop := Calls Tryd.prog 38 #[.pointer p] w fun e w' => e = .returned (.bool true) ∧ w = w'
theorem noR_nil (w : World) : noR none w := isNone_nil w
theorem noR_zero {w : World} {g : Nat} (c0 : w.cell? ⟨g, 0, none⟩ = some (.pointer none)) : noR (some ⟨g, 0, none⟩) w := by
  have he := run_neq_nil (P := Tryd.prog) w ⟨g, 0, none⟩ Tryd.underlying24
  unfold noR
  go_enter Tryd.func38, Tryd.ntmps38
  go_wp2
  go_ret
  exact ⟨rfl, rfl⟩
theorem check_none {p : Option Addr} {w : World} (n : Int) (h : noR p w) : Calls Tryd.prog 68 #[.pointer p, .int .i64 n] w fun e w' => e = .returned (.int .i64 25) ∧ w = w' := by
  go_enter Tryd.func68, Tryd.ntmps68
  go_wp2_with (go_at_call 38; refine (h).mono ?_; rintro e w' ⟨rfl, rfl⟩)
  go_ret
  exact ⟨rfl, rfl⟩
theorem Skip_none {p : Option Addr} {w : World} (n : Int) (h : noR p w) : Calls Tryd.prog 56 #[.pointer p, .int .i64 n] w fun e w' => e = .returned (.int .i64 25) ∧ w = w' := by
  go_enter Tryd.func56, Tryd.ntmps56
  go_wp2_with (go_at_call 68; refine (check_none _ h).mono ?_; rintro e w' ⟨rfl, rfl⟩)
  go_ret
  exact ⟨rfl, rfl⟩
theorem Peek_none {p : Option Addr} {w : World} (n : Int) (h : noR p w) : Calls Tryd.prog 69 #[.pointer p, .int .i64 n] w fun e w' => e = .returned (.int .i64 0) ∧ w = w' := by
  go_enter Tryd.func69, Tryd.ntmps69
  go_wp2_with (go_at_call 38; refine (h).mono ?_; rintro e w' ⟨rfl, rfl⟩)
  go_ret
  exact ⟨rfl, rfl⟩

/-- A table that is not there, or that New did not make. -/
def noT (p : Option Addr) (w : World) : Prop := Calls Tryd.prog 100 #[.pointer p] w fun e w' => e = .returned (.bool true) ∧ w = w'
theorem Read_noT {p : Option Addr} {w : World} (v : Value) (h : noT p w) : Calls Tryd.prog 86 #[.pointer p, v] w fun e w' => e = .returned (.tuple #[.int .i64 0, .int .i64 25]) ∧ w = w' := by
  go_enter Tryd.func86, Tryd.ntmps86
  go_wp2_with (go_at_call 100; refine (h).mono ?_; rintro e w' ⟨rfl, rfl⟩)
  go_ret2
  exact ⟨rfl, rfl⟩
theorem peek0 : peekN 0 0 15 = 0 := by decide
set_option maxHeartbeats 1000000 in
set_option maxRecDepth 100000 in
theorem Read_noR {p : Option Addr} {w : World} {g n : Nat} {l : List Nat} (h15 : ∀ i, nth l i ≤ 15) (hks : ksum l 16 ≤ 32768) (hl : l.length ≤ 320) (hn : n = l.length) (ht : tabl w g n l) (h : ∀ w', Below w.heap.size w w' → noR p w') :
    Calls Tryd.prog 86 #[.pointer (some ⟨g, 0, none⟩), .pointer p] w fun e w' => e = .returned (.tuple #[.int .i64 0, .int .i64 25]) ∧ Below w.heap.size w w' := by
  obtain ⟨c, d, te, hF⟩ := find_tells h15 hks hl hn ht 0 0 0
  rw [peek0] at hF
  have hc15 := te.c15
  have hd3 := te.d3
  have HF : Hid (Calls Tryd.prog 101 #[.pointer (some ⟨g, 0, none⟩), .int .i64 0] w fun e w'' => e = .returned (.agg #[.int .u16 c, .int .u16 d]) ∧ Below w.heap.size w w'') := Lib.hid (hF w (Below.refl _ _))
  have HN : Hid (Calls Tryd.prog 100 #[.pointer (some ⟨g, 0, none⟩)] w fun e w' => e = .returned (.bool false) ∧ w = w') := by
    obtain ⟨base, F, v, bs, G, hb, _⟩ := ht
    exact Lib.hid (pNone_any hb.c0)
  have H := Lib.hid h
  clear te hF ht h h15 hks hl hn
  go_enter Tryd.func86, Tryd.ntmps86
  go_wp2_with fail
  refine HN.out.mono ?_
  rintro e w' ⟨rfl, rfl⟩
  go_wp2_with fail
  refine (Peek_none _ (H.out _ (Below.refl _ _))).mono ?_
  rintro e w' ⟨rfl, rfl⟩
  go_wp2_with fail
  refine HF.out.mono ?_
  rintro e w1 ⟨rfl, b1⟩
  have B1 := Lib.hid b1
  clear b1
  go_wp2_with fail
  refine (Skip_none _ (H.out _ (grows B1.out (below_alloc _ _)))).mono ?_
  rintro e w' ⟨rfl, rfl⟩
  go_wp2
  go_ret2
  exact ⟨rfl, grows B1.out (below_alloc _ _)⟩
theorem Write_none {w : World} (v : Value) (y : Int) : Calls Tryd.prog 63 #[.pointer none, v, .int .i64 y] w fun e w' => e = .returned (.int .i64 25) ∧ w = w' := by
  go_enter Tryd.func63, Tryd.ntmps63
  go_wp2_with (go_at_call 19; refine (wPut_none 0 none _ (none_nil _)).mono ?_; rintro e w' ⟨rfl, rfl⟩)
  go_ret
  exact ⟨rfl, rfl⟩
end Go.Proofs.YtgbdecnaamlekaaDoor.Pn
