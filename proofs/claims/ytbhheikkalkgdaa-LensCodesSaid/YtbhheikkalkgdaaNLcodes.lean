/-
  collimatorlaw05.LensCodes returns true for every list of lengths: the sum, the codes and what is wrong are the document's; a row handed back that is written over does not change the next one.
  Conditions: none.
-/
import Derived.Test.YtbhheikkalkgdaaNk
import Derived.Test.YtbhheikkalkgdaaNy
import Derived.Test.YtbhheikkalkgdaaLw
namespace Go.Proofs.Ytbhheikkalkgdaa.lensCodes
open Go.ChangeShapes Go.WideShapes Go.ChangeAt Go.RowKit
open Go.ChangeMaps (open_string shut_string)
open Go.Proofs.Ytbhheikkalkgdaa.Lw Go.Proofs.Ytbhheikkalkgdaa.Vm Go.Proofs.Ytbhheikkalkgdaa.Na Go.Proofs.Ytbhheikkalkgdaa.Nm Go.Proofs.Ytbhheikkalkgdaa.Bw Go.Proofs.Ytbhheikkalkgdaa.Ni Go.Proofs.Ytbhheikkalkgdaa.Nc Go.Proofs.Ytbhheikkalkgdaa.Nd Go.Proofs.Ytbhheikkalkgdaa.Ne Go.Proofs.Ytbhheikkalkgdaa.Nf Go.Proofs.Ytbhheikkalkgdaa.Ng Go.Proofs.Ytbhheikkalkgdaa.Nh Go.Proofs.Ytbhheikkalkgdaa.Nk Go.Proofs.Ytbhheikkalkgdaa.Ny

theorem own : ownKnob Try.prog.godebug = none := by kernel_rfl
theorem laidOut : laidOutB Try.prog = true := by kernel_rfl

set_option maxHeartbeats 1000000 in
set_option maxRecDepth 100000 in
theorem wrong_ {A : Option Addr} {n cap : Nat} {f : Nat → Int} {w : World} (lone : Bool) (hn : n ≤ 1000) (he : err n f ≠ 0) (HC : Hid (row w A n f)) :
    Calls Try.prog 3 #[.slice A n cap, .bool lone] w fun e w' => e = .returned (.bool true) ∧ Below w.heap.size w w' := by
  have HO := Lib.hid (fun (u : World) (HC : Hid (row u A n f)) => Codes_no (cap := cap) (by omega) he HC)
  have HP := Lib.hid (fun (u : World) (HC : Hid (row u A n f)) => rCodes_no (cap := cap) (by omega) he HC)
  have HK := Lib.hid (fun (u : World) (HC : Hid (row u A n f)) => Kraft_any (cap := cap) (by omega) HC)
  have HL := Lib.hid (fun (u : World) (HC : Hid (row u A n f)) => rKraft_any (cap := cap) (by omega) HC)
  have HF := Lib.hid (fun (u : World) (HC : Hid (row u A n f)) => Fits_any (cap := cap) lone (by omega) HC)
  have HG := Lib.hid (fun (u : World) (HC : Hid (row u A n f)) => rFits_any (cap := cap) lone (by omega) HC)
  obtain ⟨e, hee⟩ : ∃ e, e = err n f := ⟨_, rfl⟩
  obtain ⟨k, hk⟩ : ∃ k, k = kra n f := ⟨_, rfl⟩
  obtain ⟨t, ht⟩ : ∃ t, t = fit n f lone := ⟨_, rfl⟩
  rw [← hee] at HO HP he
  rw [← hk] at HK HL
  rw [← ht] at HF HG
  clear hee hk ht
  go_enter Try.func3, Try.ntmps3
  go_wp2_with fail
  refine (HO.out _ HC).mono ?_
  rintro e w1 ⟨rfl, b1⟩
  have B1 := Lib.hid b1
  clear b1
  go_wp2_with fail
  refine (HP.out _ (Lib.hid (HC.out.below B1.out))).mono ?_
  rintro e w2 ⟨rfl, b2⟩
  have B2 := Lib.hid (grows B1.out b2)
  clear b2 B1
  go_wp2_with fail
  refine (Ints_same (n := 0) (f := fun _ => 0) (by omega) (Lib.hid (row_none _ _ _)) (Lib.hid (row_none _ _ _))).mono ?_
  rintro e w3 ⟨rfl, b3⟩
  have B3 := Lib.hid (grows B2.out b3)
  clear b3 B2
  go_wp2_with fail
  refine (HK.out _ (Lib.hid (HC.out.below B3.out))).mono ?_
  rintro e w4 ⟨rfl, b4⟩
  have B4 := Lib.hid (grows B3.out b4)
  clear b4 B3
  go_wp2_with fail
  refine (HL.out _ (Lib.hid (HC.out.below B4.out))).mono ?_
  rintro e w5 ⟨rfl, rfl⟩
  go_wp2_with fail
  refine (HF.out _ (Lib.hid (HC.out.below B4.out))).mono ?_
  rintro e w6 ⟨rfl, b6⟩
  have B6 := Lib.hid (grows B4.out b6)
  clear b6 B4
  go_wp2_with fail
  refine (HG.out _ (Lib.hid (HC.out.below B6.out))).mono ?_
  rintro e w7 ⟨rfl, b7⟩
  have B7 := Lib.hid (grows B6.out b7)
  clear b7 B6
  go_wp2
  go_loopw [10] (fun s wr => s = .int .i64 0 ∧ wr = w7) (fun _ _ => 0)
  case atStart => exact ⟨rfl, rfl⟩
  case round =>
    obtain ⟨rfl, rfl⟩ := hrel
    go_wp2_with fail
    refine (HO.out _ (Lib.hid (HC.out.below B7.out))).mono ?_
    rintro e w8 ⟨rfl, b8⟩
    have B8 := Lib.hid (grows B7.out b8)
    clear b8 B7
    go_wp2_with fail
    refine (Ints_same (n := 0) (f := fun _ => 0) (by omega) (Lib.hid (row_none _ _ _)) (Lib.hid (row_none _ _ _))).mono ?_
    rintro e w9 ⟨rfl, b9⟩
    have B9 := Lib.hid (grows B8.out b9)
    clear b9 B8
    go_wp2_with (go_at_call 7; refine (known_any _).mono ?_; rintro e w' ⟨rfl, hb⟩)
    go_ret
    exact ⟨rfl, grows B9.out hb⟩

set_option maxHeartbeats 1000000 in
set_option maxRecDepth 100000 in
theorem coded {A : Option Addr} {n cap : Nat} {f : Nat → Int} {w : World} (lone : Bool) (he : err n f = 0) (HC : Hid (row w A n f)) :
    Calls Try.prog 3 #[.slice A n cap, .bool lone] w fun e w' => e = .returned (.bool true) ∧ Below w.heap.size w w' := by
  obtain ⟨hn, _, _⟩ := err_zero he
  have HO := Lib.hid (fun (u : World) (HC : Hid (row u A n f)) => Codes_ok (cap := cap) he HC)
  have HP := Lib.hid (fun (u : World) (HC : Hid (row u A n f)) => rCodes_ok (cap := cap) he HC)
  have HK := Lib.hid (fun (u : World) (HC : Hid (row u A n f)) => Kraft_any (cap := cap) (by omega) HC)
  have HL := Lib.hid (fun (u : World) (HC : Hid (row u A n f)) => rKraft_any (cap := cap) (by omega) HC)
  have HF := Lib.hid (fun (u : World) (HC : Hid (row u A n f)) => Fits_any (cap := cap) lone (by omega) HC)
  have HG := Lib.hid (fun (u : World) (HC : Hid (row u A n f)) => rFits_any (cap := cap) lone (by omega) HC)
  obtain ⟨k, hk⟩ : ∃ k, k = kra n f := ⟨_, rfl⟩
  obtain ⟨t, ht⟩ : ∃ t, t = fit n f lone := ⟨_, rfl⟩
  obtain ⟨l, hl⟩ : ∃ l, l = L n f := ⟨_, rfl⟩
  rw [← hl] at HO HP
  rw [← hk] at HK HL
  rw [← ht] at HF HG
  clear hk ht hl he
  go_enter Try.func3, Try.ntmps3
  go_wp2_with fail
  refine (HO.out _ HC).mono ?_
  rintro e w1 ⟨g, rfl, hg, hgl, b1⟩
  have HG1 := Lib.hid hgl
  have G1 := Lib.hid hg
  have B1 := Lib.hid b1
  clear b1 hg hgl
  go_wp2_with fail
  refine (HP.out _ (Lib.hid (HC.out.below B1.out))).mono ?_
  rintro e w2 ⟨h, rfl, hh, hhl, b2⟩
  have hgh : Hid (g ≠ h) := Lib.hid (by have := G1.out.lt; omega)
  have G2 := Lib.hid (G1.out.below b2)
  have H2 := Lib.hid hh
  have B2 := Lib.hid (grows B1.out b2)
  clear b2 B1 G1 hh hhl
  go_wp2_with fail
  refine (Ints_same (n := n) (f := fun i => (code l i : Int)) (by omega) (Lib.hid (row_of_blk G2.out)) (Lib.hid (row_of_blk H2.out))).mono ?_
  rintro e w3 ⟨rfl, b3⟩
  have B3 := Lib.hid (grows B2.out b3)
  have G3 := Lib.hid (G2.out.below b3)
  have H3 := Lib.hid (H2.out.below b3)
  clear b3 B2 G2 H2
  go_wp2_with fail
  refine (HK.out _ (Lib.hid (HC.out.below B3.out))).mono ?_
  rintro e w4 ⟨rfl, b4⟩
  have B4 := Lib.hid (grows B3.out b4)
  have G4 := Lib.hid (G3.out.below b4)
  have H4 := Lib.hid (H3.out.below b4)
  clear b4 B3 G3 H3
  go_wp2_with fail
  refine (HL.out _ (Lib.hid (HC.out.below B4.out))).mono ?_
  rintro e w5 ⟨rfl, rfl⟩
  go_wp2_with fail
  refine (HF.out _ (Lib.hid (HC.out.below B4.out))).mono ?_
  rintro e w6 ⟨rfl, b6⟩
  have B6 := Lib.hid (grows B4.out b6)
  have G6 := Lib.hid (G4.out.below b6)
  have H6 := Lib.hid (H4.out.below b6)
  clear b6 B4 G4 H4
  go_wp2_with fail
  refine (HG.out _ (Lib.hid (HC.out.below B6.out))).mono ?_
  rintro e w7 ⟨rfl, b7⟩
  have B7 := Lib.hid (grows B6.out b7)
  have G7 := Lib.hid (G6.out.below b7)
  have H7 := Lib.hid (H6.out.below b7)
  clear b7 B6 G6 H6
  go_wp2
  go_loopw [10] (fun s wr => ∃ j : Nat, s = .int .i64 j ∧ j ≤ n ∧ (∃ F : Nat → Int, Hid (Blk wr g 3 (arr n F))) ∧ Hid (Blk wr h 3 (arr n (fun i => (code l i : Int)))) ∧ Hid (Below w.heap.size w wr)) (fun s _ => n - (intOf s).toNat)
  case atStart => exact ⟨0, rfl, by omega, ⟨_, G7⟩, H7, B7⟩
  case round =>
    obtain ⟨j, rfl, hj, ⟨F, G8⟩, H8, B8⟩ := hrel
    clear G7 H7 B7
    by_cases hjn : j < n
    · have hc := (G8.out.cell j).trans (arr_get _ hjn)
      have hfz := G8.out.frozen j
      go_wp2
      go_roundw
      case rel =>
        refine ⟨j + 1, by go_num, by omega, ⟨fun i => if i = j then -5 else F i, Lib.hid ?_⟩, Lib.hid (H8.out.apartStore (fun e => hgh.out e.symm)), Lib.hid (B8.out.setCell HG1.out _)⟩
        · have q := G8.out.store j (.int .i64 (-5))
          rw [arr_set] at q; exact q
      case measure => simp [intOf]; omega
    · clear G8
      go_wp2_with fail
      refine (HO.out _ (Lib.hid (HC.out.below B8.out))).mono ?_
      rintro e w9 ⟨g9, rfl, hg9, _, b9⟩
      have B9 := Lib.hid (grows B8.out b9)
      have H9 := Lib.hid (H8.out.below b9)
      have G9 := Lib.hid hg9
      clear b9 B8 H8 hg9
      go_wp2_with fail
      refine (Ints_same (n := n) (f := fun i => (code l i : Int)) (by omega) (Lib.hid (row_of_blk G9.out)) (Lib.hid (row_of_blk H9.out))).mono ?_
      rintro e w10 ⟨rfl, b10⟩
      have B10 := Lib.hid (grows B9.out b10)
      clear b10 B9
      go_wp2_with (go_at_call 7; refine (known_any _).mono ?_; rintro e w' ⟨rfl, hb⟩)
      go_ret
      exact ⟨rfl, grows B10.out hb⟩

set_option maxRecDepth 100000 in
theorem walk (A : Option Addr) (n cap : Nat) (f : Nat → Int) (lone : Bool) (w : World) (w0 : n ≤ 9223372036854775807 ∧ row w A n f) :
    Calls Try.prog 3 #[.slice A n cap, .bool lone] w fun e w' => e = .returned (.bool true) ∧ Below w.heap.size w w' := by
  obtain ⟨hn, hr⟩ := w0
  have HC := Lib.hid hr
  clear hr
  by_cases h1000 : 1000 < n
  · go_enter Try.func3, Try.ntmps3
    go_wp2_with (go_at_call 7; refine (known_any _).mono ?_; rintro e w' ⟨rfl, hb⟩)
    go_ret
    exact ⟨rfl, hb⟩
  · by_cases he : err n f = 0
    · exact coded lone he HC
    · exact wrong_ lone (by omega) he HC

set_option maxRecDepth 100000 in
theorem lifted (os : Os) (started : os.Started) (H : Type) (enc : TypeId × Value → H) :
    ReturnsInHanded {} Try.checked os 3 .any (Rows.lensCodesSpec.pre6 enc Try.prog Try.f3 Rows.lensCodesRow.domain false) (Rows.lensCodesSpec.post enc Try.prog Try.f3 false true false false) := by
  refine returnsInHanded_of_change (C := Try.checked) own started (by kernel_rfl) Try.func3
    (ChangeSpec.witness6 (enc := enc) (C := Try.checked) false ⟨#[], #[.slice none 0 0, .bool false], []⟩ 8 (by kernel_rfl) (by kernel_rfl) (by kernel_rfl) (by kernel_rfl)) ?_
  intro W base args ds gs before hval0 hW _ _
  have hval : ∀ (j : Nat) t v, Try.f3.params[j]? = some t → args[j]? = some v → Value.okWide Try.prog W .any base t v := hval0
  have hW' := hW
  obtain ⟨p, q, hA0, hV, rfl, hfz, hnd⟩ := hW
  have hA : DataW.TrodAll enc Try.prog W 0 (fun _ => true) true Try.f3.params.toList args.toList ds p := hA0
  rw [Try.params3] at hA hval
  obtain ⟨v0, vs0, d0, ds0, p0, q0, hargs, rfl, rfl, h0, r0⟩ := trodAll_cons hA
  obtain ⟨v1, vs1, d1, ds1, p1, q1, rfl, rfl, rfl, h1, r1⟩ := trodAll_cons r0
  obtain ⟨rfl, rfl, rfl⟩ := trodAll_nil r1
  obtain rfl : args = #[v0, v1] := by cases args; simp_all
  obtain ⟨rfl, rfl⟩ := trodVars_none hV
  obtain ⟨A0, n0, c0, f0, rfl, w0⟩ := open_row Try.underlying22 Try.underlying3 (by kernel_rfl) (hval 0 22 v0 rfl rfl) h0
  obtain ⟨a1, rfl, rfl, rfl⟩ := open_bool Try.underlying4 (hval 1 4 v1 rfl rfl) h1
  refine (walk A0 n0 c0 f0 a1 W w0).mono fun e W' ⟨he, hb⟩ => ?_
  subst he
  exact ⟨_, rfl, law_post (P := Try.prog) (f := Try.f3) laidOut (by kernel_rfl) (by kernel_rfl) Try.underlying4 rfl hW' rfl hb⟩

theorem proved : Rows.LensCodesSaid :=
  OpenClaim.holds_of_wide 3 Try.f3 rfl rfl rfl rfl rfl rfl rfl ⟨rfl, rfl, rfl, rfl, rfl⟩ rfl rfl rfl rfl rfl (by kernel_rfl) Try.func3 (by kernel_rfl)
    (of_decide_eq_true (by kernel_rfl)) (by unfold Func.isWrapper; first | (rw [if_pos (by decide +kernel)]; kernel_rfl) | (rw [if_neg (by decide +kernel)]; exact ⟨rfl, rfl⟩))
    (fun os started H enc _ => lifted os started H enc)
#print axioms proved
end Go.Proofs.Ytbhheikkalkgdaa.lensCodes
