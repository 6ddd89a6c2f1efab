/-
  collimatorlaw06.PrefixWrites returns true for all lengths and symbols: any symbol of any lengths is written as the document says, or refused.
  Conditions: none.
-/
import Derived.Test.YtiakknbgoahgiaaLw
import Derived.Test.YtiakknbgoahgiaaNy
import Derived.Test.YtiakknbgoahgiaaPk
import Derived.Test.YtiakknbgoahgiaaPx
import Derived.Deep.RegionWith
namespace Go.Proofs.Ytiakknbgoahgiaa.prefixWrites
open Go.ChangeShapes Go.WideShapes Go.ChangeAt Go.RowKit
open Go.ChangeMaps (open_string shut_string)
open Go.Proofs.Ytiakknbgoahgiaa.Lw Go.Proofs.Ytiakknbgoahgiaa.Vm Go.Proofs.Ytiakknbgoahgiaa.Vo Go.Proofs.Ytiakknbgoahgiaa.Bm Go.Proofs.Ytiakknbgoahgiaa.Bo Go.Proofs.Ytiakknbgoahgiaa.Bt Go.Proofs.Ytiakknbgoahgiaa.Bw Go.Proofs.Ytiakknbgoahgiaa.Br Go.Proofs.Ytiakknbgoahgiaa.Bp Go.Proofs.Ytiakknbgoahgiaa.Bs Go.Proofs.Ytiakknbgoahgiaa.Bv Go.Proofs.Ytiakknbgoahgiaa.Bx Go.Proofs.Ytiakknbgoahgiaa.Bk Go.Proofs.Ytiakknbgoahgiaa.Be Go.Proofs.Ytiakknbgoahgiaa.Bf Go.Proofs.Ytiakknbgoahgiaa.Na Go.Proofs.Ytiakknbgoahgiaa.Nm Go.Proofs.Ytiakknbgoahgiaa.Nw Go.Proofs.Ytiakknbgoahgiaa.Ni Go.Proofs.Ytiakknbgoahgiaa.Nc Go.Proofs.Ytiakknbgoahgiaa.Nd Go.Proofs.Ytiakknbgoahgiaa.Ne Go.Proofs.Ytiakknbgoahgiaa.Nf Go.Proofs.Ytiakknbgoahgiaa.Ny Go.Proofs.Ytiakknbgoahgiaa.Pm Go.Proofs.Ytiakknbgoahgiaa.Pw Go.Proofs.Ytiakknbgoahgiaa.Pi Go.Proofs.Ytiakknbgoahgiaa.Px


theorem own : ownKnob Try.prog.godebug = none := by kernel_rfl
theorem laidOut : laidOutB Try.prog = true := by kernel_rfl

set_option maxHeartbeats 8000000 in
set_option maxRecDepth 100000 in
theorem walk (A : Option Addr) (n cap : Nat) (f : Nat → Int) (A' : Option Addr) (n' cap' : Nat) (f' : Nat → Int) (w : World) (w0 : n ≤ 9223372036854775807 ∧ row w A n f) (w1 : n' ≤ 9223372036854775807 ∧ row w A' n' f') :
    Calls Try.prog 4 #[.slice A n cap, .slice A' n' cap'] w fun e w' => e = .returned (.bool true) ∧ Below w.heap.size w w' := by
  obtain ⟨hn, hr⟩ := w0
  obtain ⟨hn', hr'⟩ := w1
  have HC := Lib.hid hr
  have HC' := Lib.hid hr'
  clear hr hr'
  by_cases hn1 : 1000 < n
  · go_enter Try.func4, Try.ntmps4
    go_wp2_with (go_at_call 7; refine (Pk.known_any _).mono ?_; rintro e w' ⟨rfl, hb⟩)
    go_ret
    exact ⟨rfl, hb⟩
  go_enter Try.func4, Try.ntmps4
  go_wp2_with fail
  refine (Open_any _).mono ?_
  rintro e w1 ⟨g, rfl, t1, hg, b1⟩
  have T1 := Lib.hid t1
  have HG := Lib.hid hg
  have B1 := Lib.hid b1
  have R1 : Hid (rb (w1.alloc (.cells #[.slice none 0 0] 49)) w1.heap.size (.slice none 0 0)) := Lib.hid (Blk.fresh w1 _ _)
  have K0 : Hid (both w (w1.alloc (.cells #[.slice none 0 0] 49)) g w1.heap.size (.slice none 0 0) (.slice none 0 0) [] [] 0) := Lib.hid (by
    have hal : Only (fun _ => False) w1 (w1.alloc (.cells #[.slice none 0 0] 49)) := (Only.refl _ _).alloc _
    exact ⟨wt_only t1 hal (fun e => e) (fun _ _ e => e), ⟨R1.out, World.ownsRow_nil _ _ _ _, by simp⟩, rfl, rfl, fun i h1 _ => by simp [Value.ownBlock] at h1, by omega, b1.size, b1.alloc b1.size _⟩)
  clear t1 hg b1 T1 HG B1 R1
  go_wp2
  generalize w1.alloc (.cells #[.slice none 0 0] 49) = w2 at *
  generalize w1.heap.size = h at *
  go_loopw [7] (fun i wr => ∃ (j : Nat) (v vb : Value) (l bs : List UInt8) (z : Nat), i = .int .i64 j ∧ j ≤ n' ∧ j ≤ 30 ∧ z ≤ 15 * j ∧ Hid (both w wr g h v vb l bs z))
    (fun i _ => 30 - (intOf i).toNat)
  case atStart => exact ⟨0, _, _, _, _, 0, rfl, by omega, by omega, by omega, K0⟩
  case round =>
    obtain ⟨j, v, vb, l, bs, z, rfl, hj, hj30, hzj, K⟩ := hrel
    clear K0
    by_cases hgo : j < n' ∧ j < 30
    · obtain ⟨hjl, hj3⟩ := hgo
      obtain ⟨b, off, rfl, hbl, cy⟩ := HC'.out j hjl
      have HY : Hid (∀ u, Below w.heap.size w u → u.cell? ⟨b, off + j, none⟩ = some (.int .i64 (f' j))) := Lib.hid (fun u hu => (hu.cell (p := ⟨b, off + j, none⟩) hbl).trans cy)
      clear cy
      obtain ⟨y, hy⟩ : ∃ y, y = f' j := ⟨_, rfl⟩
      rw [← hy] at HY
      clear hy
      have k0 := HY.out _ K.out.b
      have hz : z ≤ 562949953421312 := by omega
      have hzl : bs.length ≤ 70368744177664 := by rw [K.out.len]; omega
      have M3 := Lib.hid K.out.mid'.drew
      have i1 : (0 : Int) ≤ (j : Int) := by omega
      have i2 : (j : Int) < (n' : Int) := by omega
      go_wp2_with fail
      go_region_with (first | (go_at_call 18; refine (call_write y hn HC.out M3.out hz).mono ?_; rintro e w4 ⟨rfl, v4, l4, n4, m4⟩; have M4 := Lib.hid m4; have N4 := Lib.hid n4; have k4 := HY.out _ m4.b; clear m4 n4) | (go_at_call 19; refine (call_rwrite y hn HC.out M4.out hzl).mono ?_; rintro e w5 ⟨rfl, v5, b5, l5, n5, m5⟩; have k5 := HY.out _ m5.b; have K5 := Lib.hid (wrote_both K.out N4.out l5 n5 m5); clear l5 n5 m5; obtain ⟨A5, cap5, hv5⟩ := K5.out.row; subst hv5; have c5 := K5.out.r.b.c0) | (go_at_call 20; refine (Bx.Len_any K5.out.t.b).mono ?_; rintro e w6 ⟨rfl, rfl⟩) | (go_at_call 21; refine (Bx.Text_any K5.out.t).mono ?_; rintro e w6 ⟨rfl, rfl⟩) | (go_at_call 22; refine (text_ref K5.out (by have := wrZ_le n f y z; omega)).mono ?_; rintro e w6 ⟨rfl, b6⟩; have K6 := Lib.hid (K5.out.below b6)))
      all_goals
        have hZ := wrZ_le n f y z
        generalize wrZ n f y z = Z at *
        clear k0 k4 k5 c5 K5 b6 M4 N4 M3
        go_wp2
        go_roundw
        case rel => exact ⟨j + 1, _, _, l4, b5, Z, by go_num, by omega, by omega, by omega, K6⟩
        case measure => simp [intOf]; omega
    · rcases (show ¬ j < n' ∨ (j < n' ∧ ¬ j < 30) by omega) with hx | ⟨hx, hx'⟩
      all_goals
        clear hgo
        go_wp2_with (go_at_call 7; refine (Pk.known_any _).mono ?_; rintro e w' ⟨rfl, hb⟩)
        go_ret
        exact ⟨rfl, K.out.b.trans (hb.mono K.out.b.size)⟩

set_option maxRecDepth 100000 in
theorem lifted (os : Os) (started : os.Started) (H : Type) (enc : TypeId × Value → H) :
    ReturnsInHanded {} Try.checked os 4 .any (Rows.prefixWritesSpec.pre6 enc Try.prog Try.f4 Rows.prefixWritesRow.domain false) (Rows.prefixWritesSpec.post enc Try.prog Try.f4 false true false false) := by
  refine returnsInHanded_of_change (C := Try.checked) own started (by kernel_rfl) Try.func4
    (ChangeSpec.witness6 (enc := enc) (C := Try.checked) false ⟨#[], #[.slice none 0 0, .slice none 0 0], []⟩ 8 (by kernel_rfl) (by kernel_rfl) (by kernel_rfl) (by kernel_rfl)) ?_
  intro W base args ds gs before hval0 hW _ _
  have hval : ∀ (j : Nat) t v, Try.f4.params[j]? = some t → args[j]? = some v → Value.okWide Try.prog W .any base t v := hval0
  have hW' := hW
  obtain ⟨p, q, hA0, hV, rfl, hfz, hnd⟩ := hW
  have hA : DataW.TrodAll enc Try.prog W 0 (fun _ => true) true Try.f4.params.toList args.toList ds p := hA0
  rw [Try.params4] at hA hval
  obtain ⟨v0, vs0, d0, ds0, p0, q0, hargs, rfl, rfl, h0, r0⟩ := trodAll_cons hA
  obtain ⟨v1, vs1, d1, ds1, p1, q1, rfl, rfl, rfl, h1, r1⟩ := trodAll_cons r0
  obtain ⟨rfl, rfl, rfl⟩ := trodAll_nil r1
  obtain rfl : args = #[v0, v1] := by cases args; simp_all
  obtain ⟨rfl, rfl⟩ := trodVars_none hV
  obtain ⟨A0, n0, c0, f0, rfl, w0⟩ := open_row Try.underlying22 Try.underlying3 (by kernel_rfl) (hval 0 22 v0 rfl rfl) h0
  obtain ⟨A1, n1, c1, f1, rfl, w1⟩ := open_row Try.underlying22 Try.underlying3 (by kernel_rfl) (hval 1 22 v1 rfl rfl) h1
  refine (walk A0 n0 c0 f0 A1 n1 c1 f1 W w0 w1).mono fun e W' ⟨he, hb⟩ => ?_
  subst he
  exact ⟨_, rfl, law_post (P := Try.prog) (f := Try.f4) laidOut (by kernel_rfl) (by kernel_rfl) Try.underlying4 rfl hW' rfl hb⟩

theorem proved : Rows.PrefixWritesSaid :=
  OpenClaim.holds_of_wide 4 Try.f4 rfl rfl rfl rfl rfl rfl rfl ⟨rfl, rfl, rfl, rfl, rfl⟩ rfl rfl rfl rfl rfl (by kernel_rfl) Try.func4 (by kernel_rfl)
    (of_decide_eq_true (by kernel_rfl)) (by unfold Func.isWrapper; first | (rw [if_pos (by decide +kernel)]; kernel_rfl) | (rw [if_neg (by decide +kernel)]; exact ⟨rfl, rfl⟩))
    (fun os started H enc _ => lifted os started H enc)
#print axioms proved
end Go.Proofs.Ytiakknbgoahgiaa.prefixWrites
