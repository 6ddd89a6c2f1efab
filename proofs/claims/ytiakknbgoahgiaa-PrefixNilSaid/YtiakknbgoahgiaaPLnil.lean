/-
  collimatorlaw06.PrefixNil returns true for every string and integer: a table that is not there reads nothing; nothing is read of no reader, and written by no writer.
  Conditions: none.
-/
import Derived.Test.YtiakknbgoahgiaaLw
import Derived.Test.YtiakknbgoahgiaaPk
import Derived.Test.YtiakknbgoahgiaaPn
import Derived.Great.BuildSlice
namespace Go.Proofs.Ytiakknbgoahgiaa.prefixNil
open Go.ChangeShapes Go.WideShapes Go.ChangeAt Go.RowKit
open Go.ChangeMaps (open_string shut_string)
open Go.Proofs.Ytiakknbgoahgiaa.Lw Go.Proofs.Ytiakknbgoahgiaa.Vm Go.Proofs.Ytiakknbgoahgiaa.Vo Go.Proofs.Ytiakknbgoahgiaa.Bm Go.Proofs.Ytiakknbgoahgiaa.Bt Go.Proofs.Ytiakknbgoahgiaa.Bw Go.Proofs.Ytiakknbgoahgiaa.Br Go.Proofs.Ytiakknbgoahgiaa.Bp Go.Proofs.Ytiakknbgoahgiaa.Bs Go.Proofs.Ytiakknbgoahgiaa.Bv Go.Proofs.Ytiakknbgoahgiaa.Bx Go.Proofs.Ytiakknbgoahgiaa.Bn Go.Proofs.Ytiakknbgoahgiaa.Na Go.Proofs.Ytiakknbgoahgiaa.Nm Go.Proofs.Ytiakknbgoahgiaa.Nw Go.Proofs.Ytiakknbgoahgiaa.Ni Go.Proofs.Ytiakknbgoahgiaa.Nc Go.Proofs.Ytiakknbgoahgiaa.Nd Go.Proofs.Ytiakknbgoahgiaa.Ne Go.Proofs.Ytiakknbgoahgiaa.Nf Go.Proofs.Ytiakknbgoahgiaa.Pm Go.Proofs.Ytiakknbgoahgiaa.Pt Go.Proofs.Ytiakknbgoahgiaa.Pc Go.Proofs.Ytiakknbgoahgiaa.Pd Go.Proofs.Ytiakknbgoahgiaa.Pe Go.Proofs.Ytiakknbgoahgiaa.Pf Go.Proofs.Ytiakknbgoahgiaa.Py Go.Proofs.Ytiakknbgoahgiaa.Pg Go.Proofs.Ytiakknbgoahgiaa.Ph Go.Proofs.Ytiakknbgoahgiaa.Pi Go.Proofs.Ytiakknbgoahgiaa.Pk Go.Proofs.Ytiakknbgoahgiaa.Pn


theorem own : ownKnob Try.prog.godebug = none := by kernel_rfl
theorem laidOut : laidOutB Try.prog = true := by kernel_rfl

theorem err2 : err 2 (of [1, 1]) = 0 := by decide +kernel
theorem l2_eq : L 2 (of [1, 1]) = [1, 1] := by decide +kernel
theorem l2_15 : ∀ i, nth [1, 1] i ≤ 15 := by rw [← l2_eq]; exact L_le (err_zero err2).2.1
theorem l2_k : ksum [1, 1] 16 ≤ 32768 := by decide +kernel
theorem kTwo (u : World) : Calls Try.prog 8 #[.slice (some ⟨u.heap.size, 0, none⟩) 2 2] (u.alloc (.cells #[.int .i64 1, .int .i64 1] 3))
    fun e w' => ∃ g, e = .returned (.tuple #[.pointer (some ⟨g, 0, none⟩), .int .i64 0]) ∧ tabl w' g 2 [1, 1] ∧ Below u.heap.size u w' := by
  refine (New_ok (cap := 2) err2 (row_of [1, 1] (Blk.fresh u 3 #[.int .i64 1, .int .i64 1]) rfl rfl)).mono ?_
  rintro e w' ⟨g, rfl, ht, _, hb⟩
  rw [l2_eq] at ht
  exact ⟨g, rfl, ht, grows (below_alloc _ _) hb⟩

set_option maxHeartbeats 2000000 in
set_option maxRecDepth 100000 in
theorem walk (s : ByteArray) (n : Int) (_ : s.size ≤ maxLen) (_ : (Lit.int .i64 n).wf = true) (w : World) :
    Calls Try.prog 6 #[.string s, .int .i64 n] w fun e w' => e = .returned (.bool true) ∧ Below w.heap.size w w' := by
  by_cases hs : 1000 < s.size
  · go_enter Try.func6, Try.ntmps6
    go_wp2_with (go_at_call 7; refine (known_any _).mono ?_; rintro e w' ⟨rfl, hb⟩)
    go_ret
    exact ⟨rfl, hb⟩
  · have HBu := Lib.hid built0
    obtain ⟨T, hT⟩ : ∃ T, T = Pc.tcells (.pointer none) 0 (fun _ => (0, 0)) (.slice none 0 0) := ⟨_, rfl⟩
    rw [← hT] at HBu
    have HC0 : Hid (T[0]? = some (.pointer none)) := Lib.hid (by rw [hT]; exact Pc.t_c0 _ _ _ _)
    clear hT
    go_enter Try.func6, Try.ntmps6
    go_wp2_with (refine wpList_buildTo rfl 61 #[] rfl (some 23) rfl T ?hbb ?_)
    case hbb => exact HBu.out
    obtain ⟨w1, hw1⟩ : ∃ w1, w1 = w.alloc (.cells T 61) := ⟨_, rfl⟩
    have B1 : Hid (Below w.heap.size w w1) := Lib.hid (by rw [hw1]; exact below_alloc _ _)
    have Z1 : Hid (Blk w1 w.heap.size 61 T) := Lib.hid (by rw [hw1]; exact Blk.fresh w _ _)
    rw [← hw1]
    clear hw1 HBu
    obtain ⟨gz, hgz⟩ : ∃ gz, gz = w.heap.size := ⟨_, rfl⟩
    rw [← hgz] at Z1 ⊢
    clear hgz
    have HZ : Hid (∀ u, Below w1.heap.size w1 u → u.cell? ⟨gz, 0, none⟩ = some (.pointer none)) := Lib.hid (fun u hu => by rw [(Z1.out.below hu).cell, HC0.out])
    refine (Bs.New_ok s 0 _ (by omega) (by omega)).mono ?_
    rintro e w2 ⟨r, rfl, r2, _, b2⟩
    have B2 := Lib.hid b2
    clear b2 r2 Z1
    go_wp2_with fail
    refine (kTwo _).mono ?_
    rintro e w3 ⟨g, rfl, t3, b3⟩
    have B3 := Lib.hid (grows B2.out b3)
    have T3 := Lib.hid t3
    clear t3 b3 B2
    go_wp2_with fail
    refine (Read_noT _ (pNone_nil _)).mono ?_
    rintro e w' ⟨rfl, rfl⟩
    go_wp2_with fail
    refine (Read_noT _ (pNone_zero (HZ.out _ B3.out))).mono ?_
    rintro e w' ⟨rfl, rfl⟩
    go_wp2_with fail
    refine (Read_noR l2_15 l2_k (by decide) (by decide) T3.out (fun u _ => noR_nil u)).mono ?_
    rintro e w4 ⟨rfl, b4⟩
    have B4 := Lib.hid (grows B3.out b4)
    have T4 := Lib.hid (tabl.below T3.out b4)
    clear b4 B3 T3
    go_wp2_with fail
    refine (Read_noR l2_15 l2_k (by decide) (by decide) (tabl.below T4.out (below_alloc _ _)) (fun u hu => noR_zero ((((Blk.fresh w4 63 #[.pointer none, .string ⟨#[]⟩, .int .i64 0])).below hu).cell 0))).mono ?_
    rintro e w5 ⟨rfl, b5⟩
    have B5 := Lib.hid (grows B4.out (grows (below_alloc _ _) b5))
    clear b5 B4
    go_wp2_with fail
    refine (Symbols_nil _).mono ?_
    rintro e w' ⟨rfl, rfl⟩
    go_wp2_with fail
    refine (Symbols_zero (HZ.out _ B5.out)).mono ?_
    rintro e w' ⟨rfl, rfl⟩
    go_wp2_with fail
    refine (Write_none _ _).mono ?_
    rintro e w' ⟨rfl, rfl⟩
    go_wp2_with (go_at_call 7; refine (known_any _).mono ?_; rintro e w' ⟨rfl, hb⟩)
    go_ret
    exact ⟨rfl, grows B1.out (grows B5.out (grows (below_alloc _ _) hb))⟩

set_option maxRecDepth 100000 in
theorem lifted (os : Os) (started : os.Started) (H : Type) (enc : TypeId × Value → H) :
    ReturnsInHanded {} Try.checked os 6 .any (Rows.prefixNilSpec.pre6 enc Try.prog Try.f6 Rows.prefixNilRow.domain false) (Rows.prefixNilSpec.post enc Try.prog Try.f6 false true false false) := by
  refine returnsInHanded_of_change (C := Try.checked) own started (by kernel_rfl) Try.func6
    (ChangeSpec.witness6 (enc := enc) (C := Try.checked) false ⟨#[], #[.string ByteArray.empty, .int .i64 0], []⟩ 8 (by kernel_rfl) (by kernel_rfl) (by kernel_rfl) (by kernel_rfl)) ?_
  intro W base args ds gs before hval0 hW _ _
  have hval : ∀ (j : Nat) t v, Try.f6.params[j]? = some t → args[j]? = some v → Value.okWide Try.prog W .any base t v := hval0
  have hW' := hW
  obtain ⟨p, q, hA0, hV, rfl, hfz, hnd⟩ := hW
  have hA : DataW.TrodAll enc Try.prog W 0 (fun _ => true) true Try.f6.params.toList args.toList ds p := hA0
  rw [Try.params6] at hA hval
  obtain ⟨v0, vs0, d0, ds0, p0, q0, hargs, rfl, rfl, h0, r0⟩ := trodAll_cons hA
  obtain ⟨v1, vs1, d1, ds1, p1, q1, rfl, rfl, rfl, h1, r1⟩ := trodAll_cons r0
  obtain ⟨rfl, rfl, rfl⟩ := trodAll_nil r1
  obtain rfl : args = #[v0, v1] := by cases args; simp_all
  obtain ⟨rfl, rfl⟩ := trodVars_none hV
  obtain ⟨a0, rfl, rfl, rfl, w0⟩ := open_string Try.underlying9 (hval 0 9 v0 rfl rfl) h0
  obtain ⟨a1, rfl, rfl, rfl, w1⟩ := open_int Try.underlying3 (hval 1 3 v1 rfl rfl) h1
  refine (walk a0 a1 w0 w1 W).mono fun e W' ⟨he, hb⟩ => ?_
  subst he
  exact ⟨_, rfl, law_post (P := Try.prog) (f := Try.f6) laidOut (by kernel_rfl) (by kernel_rfl) Try.underlying4 rfl hW' rfl hb⟩

theorem proved : Rows.PrefixNilSaid :=
  OpenClaim.holds_of_wide 6 Try.f6 rfl rfl rfl rfl rfl rfl rfl ⟨rfl, rfl, rfl, rfl, rfl⟩ rfl rfl rfl rfl rfl (by kernel_rfl) Try.func6 (by kernel_rfl)
    (of_decide_eq_true (by kernel_rfl)) (by unfold Func.isWrapper; first | (rw [if_pos (by decide +kernel)]; kernel_rfl) | (rw [if_neg (by decide +kernel)]; exact ⟨rfl, rfl⟩))
    (fun os started H enc _ => lifted os started H enc)
#print axioms proved
end Go.Proofs.Ytiakknbgoahgiaa.prefixNil
