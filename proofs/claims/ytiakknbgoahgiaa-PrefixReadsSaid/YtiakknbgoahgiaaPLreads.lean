/-
  collimatorlaw06.PrefixReads returns true for all lengths, strings and places: the symbols that are read of any bits by any lengths, and places, are as the document says, or there is none.
  Conditions: none.
-/
import Derived.Test.YtiakknbgoahgiaaLw
import Derived.Test.YtiakknbgoahgiaaNy
import Derived.Test.YtiakknbgoahgiaaCc
import Derived.Test.YtiakknbgoahgiaaPk
import Derived.Test.YtiakknbgoahgiaaPr
namespace Go.Proofs.Ytiakknbgoahgiaa.prefixReads
open Go.ChangeShapes Go.WideShapes Go.ChangeAt Go.RowKit
open Go.ChangeMaps (open_string shut_string)
open Go.Proofs.Ytiakknbgoahgiaa.Lw Go.Proofs.Ytiakknbgoahgiaa.Vm Go.Proofs.Ytiakknbgoahgiaa.Vo Go.Proofs.Ytiakknbgoahgiaa.Bm Go.Proofs.Ytiakknbgoahgiaa.Bo Go.Proofs.Ytiakknbgoahgiaa.Bt Go.Proofs.Ytiakknbgoahgiaa.Bw Go.Proofs.Ytiakknbgoahgiaa.Br Go.Proofs.Ytiakknbgoahgiaa.Bp Go.Proofs.Ytiakknbgoahgiaa.Bq Go.Proofs.Ytiakknbgoahgiaa.Bs Go.Proofs.Ytiakknbgoahgiaa.Cc Go.Proofs.Ytiakknbgoahgiaa.Na Go.Proofs.Ytiakknbgoahgiaa.Nm Go.Proofs.Ytiakknbgoahgiaa.Nw Go.Proofs.Ytiakknbgoahgiaa.Ni Go.Proofs.Ytiakknbgoahgiaa.Nc Go.Proofs.Ytiakknbgoahgiaa.Nd Go.Proofs.Ytiakknbgoahgiaa.Ne Go.Proofs.Ytiakknbgoahgiaa.Nf Go.Proofs.Ytiakknbgoahgiaa.Ng Go.Proofs.Ytiakknbgoahgiaa.Ny Go.Proofs.Ytiakknbgoahgiaa.Pm Go.Proofs.Ytiakknbgoahgiaa.Pr Go.Proofs.Ytiakknbgoahgiaa.Pg Go.Proofs.Ytiakknbgoahgiaa.Ph


theorem own : ownKnob Try.prog.godebug = none := by kernel_rfl
theorem laidOut : laidOutB Try.prog = true := by kernel_rfl

theorem gotA_le {l : List Nat} (h15 : ∀ i, nth l i ≤ 15) (N a m : Nat) (ha : a ≤ m) : gotA l N a (m - a) ≤ m := by
  rcases got_cases h15 N a (m - a) with ⟨i, _, _, h, e⟩ | ⟨_, e⟩
  · simp only [gotA, e]; omega
  · simp only [gotA, e]; exact ha
theorem gotE_cases (l : List Nat) (N a m : Nat) : gotE l N a m = 0 ∨ ((gotE l N a m != 0) = true) := by
  by_cases h : gotE l N a m = 0
  · exact .inl h
  · exact .inr (by simpa using h)

set_option maxHeartbeats 8000000 in
set_option maxRecDepth 100000 in
theorem walk (A : Option Addr) (n cap : Nat) (f : Nat → Int) (s : ByteArray) (at0 : Int) (w : World) (w0 : n ≤ 9223372036854775807 ∧ row w A n f) (_ : s.size ≤ maxLen) (w2 : (Lit.int .i64 at0).wf = true) :
    Calls Try.prog 3 #[.slice A n cap, .string s, .int .i64 at0] w fun e w' => e = .returned (.bool true) ∧ Below w.heap.size w w' := by
  obtain ⟨hn, hr⟩ := w0
  have HC := Lib.hid hr
  have HAt : Hid (-9223372036854775808 ≤ at0 ∧ at0 ≤ 9223372036854775807) := Lib.hid (by simpa [Lit.wf, IntKind.min, IntKind.max, IntKind.signed, IntKind.bits] using w2)
  clear hr w2
  by_cases hn1 : 1000 < n
  · go_enter Try.func3, Try.ntmps3
    go_wp2_with (go_at_call 7; refine (Pk.known_any _).mono ?_; rintro e w' ⟨rfl, hb⟩)
    go_ret
    exact ⟨rfl, hb⟩
  by_cases hs1 : 1000 < s.size
  · go_enter Try.func3, Try.ntmps3
    go_wp2_with (go_at_call 7; refine (Pk.known_any _).mono ?_; rintro e w' ⟨rfl, hb⟩)
    go_ret
    exact ⟨rfl, hb⟩
  have HCt : Hid (∀ u (z : Int), z = ((8 * s.size + 1 : Nat) : Int) → Calls Try.prog 10 #[.int .i64 at0, .int .i64 z] u fun e w' => e = .returned (.int .i64 (Cc.cnt at0 (8 * s.size + 1))) ∧ u = w') := Lib.hid (fun u z hz => by rw [hz]; exact Count_any at0 _ HAt.out (by omega) (by omega) u)
  have hk := Cc.cnt_lt at0 (show 0 < 8 * s.size + 1 by omega)
  obtain ⟨k, hke⟩ : ∃ k, k = Cc.cnt at0 (8 * s.size + 1) := ⟨_, rfl⟩
  rw [← hke] at HCt hk
  have hk' : k ≤ 8 * s.size := by omega
  have hs2 : s.size ≤ 281474976710656 := by omega
  clear hke hk HAt
  by_cases he : err n f = 0
  · obtain ⟨h1, h2, h3⟩ := err_zero he
    have HN := Lib.hid (New_ok (cap := cap) he HC)
    have HO : Hid (∀ u, Below w.heap.size w u → Calls Try.prog 9 #[.slice A n cap] u fun e w' => ∃ gc, e = .returned (.tuple #[.slice (some ⟨gc, 0, none⟩) n n, .int .i64 0]) ∧ Below u.heap.size u w') := Lib.hid (fun u hu => (rCodes_ok (cap := cap) he (Lib.hid (HC.out.below hu))).mono (fun e w' ⟨gc, a1, _, _, a4⟩ => ⟨gc, a1, a4⟩))
    have HRr : Hid (∀ u q a, Below w.heap.size w u → rr u q s a → a ≤ 8 * s.size → Calls Try.prog 15 #[.pointer (some ⟨q, 0, none⟩), .slice A n cap] u fun e w' => e = .returned (.tuple #[.int .i64 (gotS (L n f) (num s.data.toList) a (8 * s.size - a)), .int .i64 (gotE (L n f) (num s.data.toList) a (8 * s.size - a))])
      ∧ rr w' q s (gotA (L n f) (num s.data.toList) a (8 * s.size - a)) ∧ Only (At q) u w') := Lib.hid (fun u q a hu hq ha => rRead_any he (Lib.hid (HC.out.below hu)) (Lib.hid hq) hs2 ha)
    have H15 := Lib.hid (L_le h2)
    have H3 := Lib.hid h3
    have HLn := Lib.hid (L_length n f)
    clear h2 h3 he
    obtain ⟨l, hl⟩ : ∃ l, l = L n f := ⟨_, rfl⟩
    rw [← hl] at HN HRr H15 H3 HLn
    clear hl
    have HRd : Hid (∀ u g r a, tabl u g n l → rd u r s a → a ≤ 8 * s.size → Calls Try.prog 14 #[.pointer (some ⟨g, 0, none⟩), .pointer (some ⟨r, 0, none⟩)] u fun e w' => e = .returned (.tuple #[.int .i64 (gotS l (num s.data.toList) a (8 * s.size - a)), .int .i64 (gotE l (num s.data.toList) a (8 * s.size - a))])
      ∧ rd w' r s (gotA l (num s.data.toList) a (8 * s.size - a)) ∧ tabl w' g n l ∧ Only (At r) u w') := Lib.hid (fun u g r a ht hr ha => Read_any H15.out H3.out (by rw [HLn.out]; exact h1) HLn.out.symm ht hr hs2 ha)
    have HGA : Hid (∀ a, a ≤ 8 * s.size → gotA l (num s.data.toList) a (8 * s.size - a) ≤ 8 * s.size) := Lib.hid (fun a ha => gotA_le H15.out _ _ _ ha)
    go_enter Try.func3, Try.ntmps3
    go_wp2_with fail
    refine HN.out.mono ?_
    rintro e w1 ⟨g, rfl, t1, _, b1⟩
    have B1 := Lib.hid b1
    have T1 := Lib.hid t1
    clear b1 t1
    go_wp2_with fail
    refine (HO.out _ B1.out).mono ?_
    rintro e w2 ⟨gc, rfl, b2⟩
    have B2 := Lib.hid (grows B1.out b2)
    have T2 := Lib.hid (tabl.below T1.out b2)
    clear b2 B1 T1
    go_wp2_with fail
    refine (HCt.out _ _ ?_).mono ?_
    · simp
    rintro e w' ⟨rfl, rfl⟩
    go_wp2_with fail
    refine (Bs.New_ok s k _ hs2 hk').mono ?_
    rintro e w3 ⟨r, rfl, r3, hr3, b3⟩
    have B3 := Lib.hid (grows B2.out b3)
    have T3 := Lib.hid (tabl.below T2.out b3)
    have R3 := Lib.hid r3
    have hrw : w.heap.size ≤ r := by rw [hr3]; exact B2.out.size
    clear b3 r3 hr3 T2 B2
    go_wp2_with fail
    refine (rNew_ok s k _ hs2 hk').mono ?_
    rintro e w4 ⟨q, rfl, q4, hq4, b4⟩
    have B4 := Lib.hid (grows B3.out b4)
    have T4 := Lib.hid (tabl.below T3.out b4)
    have R4 := Lib.hid (R3.out.below b4)
    have Q4 := Lib.hid q4
    have hqw : w.heap.size ≤ q := by rw [hq4]; exact B3.out.size
    clear b4 q4 hq4 T3 B3 R3
    go_wp2_with fail
    refine (tabl.symbols T4.out).mono ?_
    rintro e w' ⟨rfl, rfl⟩
    go_wp2
    go_loopw [16] (fun x wr => ∃ j a : Nat, x = .int .i64 j ∧ j ≤ 40 ∧ a ≤ 8 * s.size ∧ Hid (rd wr r s a) ∧ Hid (rr wr q s a) ∧ Hid (tabl wr g n l) ∧ Hid (Below w.heap.size w wr)) (fun x _ => 40 - (intOf x).toNat)
    case atStart => exact ⟨0, k, rfl, by omega, hk', R4, Q4, T4, B4⟩
    case round =>
      obtain ⟨j, a, rfl, hj, ha, R, Q, T, B⟩ := hrel
      clear R4 Q4 T4 B4
      by_cases hj4 : j < 40
      · have hqr : q ≠ r := Blk.apart Q.out R.out (by decide)
        have haP := HGA.out a ha
        have HRd' := Lib.hid (HRd.out _ g r a T.out R.out ha)
        have HRr' : Hid (∀ u, Below w.heap.size w u → rr u q s a → _) := Lib.hid (fun u hu hq => HRr.out u q a hu hq ha)
        have hEc := gotE_cases l (num s.data.toList) a (8 * s.size - a)
        obtain ⟨S, hS⟩ : ∃ S, S = gotS l (num s.data.toList) a (8 * s.size - a) := ⟨_, rfl⟩
        obtain ⟨E, hE⟩ : ∃ E, E = gotE l (num s.data.toList) a (8 * s.size - a) := ⟨_, rfl⟩
        obtain ⟨P, hP⟩ : ∃ P, P = gotA l (num s.data.toList) a (8 * s.size - a) := ⟨_, rfl⟩
        rw [← hS, ← hE, ← hP] at HRd'
        simp only [← hS, ← hE, ← hP] at HRr'
        rw [← hE] at hEc
        rw [← hP] at haP
        clear hS hE hP
        rcases hEc with rfl | hE0
        all_goals
          go_wp2_with fail
          refine HRd'.out.mono ?_
          rintro e w5 ⟨rfl, r5, t5, o5⟩
          have R5 := Lib.hid r5
          have Q5 := Lib.hid (Q.out.only o5 (fun e => hqr e))
          have T5 := Lib.hid t5
          have B5 := Lib.hid (o5.below B.out B.out.size (fun i hi => by have e : i = r := hi; omega))
          clear r5 t5 o5
          go_wp2_with fail
          refine (HRr'.out _ B5.out Q5.out).mono ?_
          rintro e w6 ⟨rfl, q6, o6⟩
          have R6 := Lib.hid (R5.out.only o6 (fun e => hqr e.symm))
          have T6 := Lib.hid (tabl.apart T5.out Q5.out (by decide) (by decide) (by decide) o6)
          have B6 := Lib.hid (o6.below B5.out B5.out.size (fun i hi => by have e : i = q := hi; omega))
          have Q6 := Lib.hid q6
          clear q6 o6 R5 Q5 T5 B5
          have q1 := Q6.out.c1
          go_wp2_with fail
          go_quiet ((go_at_call 16; exact Calls.quiet_of_same (At_any (R6.out.draws _))))
        · go_wp2
          go_roundw
          case rel => exact ⟨j + 1, P, by go_num, by omega, haP, Lib.hid (R6.out.draws _), Lib.hid (Q6.out.draws _), Lib.hid (tabl.below T6.out (below_draws _ _)), Lib.hid (drews_below B6.out _)⟩
          case measure => simp [intOf]; omega
        · go_wp2_with (go_at_call 7; refine (Pk.known_any _).mono ?_; rintro e w' ⟨rfl, hb⟩)
          go_ret
          exact ⟨rfl, grows (drews_below B6.out _) hb⟩
      · go_wp2_with (go_at_call 7; refine (Pk.known_any _).mono ?_; rintro e w' ⟨rfl, hb⟩)
        go_ret
        exact ⟨rfl, grows B.out hb⟩
  · have HN := Lib.hid (New_no (cap := cap) hn he HC)
    have HO : Hid (∀ u, Below w.heap.size w u → Calls Try.prog 9 #[.slice A n cap] u fun e w' => e = .returned (.tuple #[.slice none 0 0, .int .i64 (err n f)]) ∧ Below u.heap.size u w') := Lib.hid (fun u hu => rCodes_no (cap := cap) hn he (Lib.hid (HC.out.below hu)))
    obtain ⟨e, hee⟩ : ∃ e, e = err n f := ⟨_, rfl⟩
    rw [← hee] at HN HO he
    have he' : (e == 0) = false := by simpa using he
    clear hee he
    go_enter Try.func3, Try.ntmps3
    go_wp2_with fail
    refine HN.out.mono ?_
    rintro e w1 ⟨rfl, b1⟩
    have B1 := Lib.hid b1
    clear b1
    go_wp2_with fail
    refine (HO.out _ B1.out).mono ?_
    rintro e w2 ⟨rfl, b2⟩
    have B2 := Lib.hid (grows B1.out b2)
    clear b2 B1
    go_wp2_with fail
    refine (HCt.out _ _ ?_).mono ?_
    · simp
    rintro e w' ⟨rfl, rfl⟩
    go_wp2_with fail
    refine (Bs.New_ok s k _ hs2 hk').mono ?_
    rintro e w3 ⟨r, rfl, r3, _, b3⟩
    have B3 := Lib.hid (grows B2.out b3)
    clear b3 B2 r3
    go_wp2_with fail
    refine (rNew_ok s k _ hs2 hk').mono ?_
    rintro e w4 ⟨q, rfl, q4, _, b4⟩
    have B4 := Lib.hid (grows B3.out b4)
    clear b4 B3 q4
    go_wp2_with (go_at_call 7; refine (Pk.known_any _).mono ?_; rintro e w' ⟨rfl, hb⟩)
    go_ret
    exact ⟨rfl, grows B4.out hb⟩

set_option maxRecDepth 100000 in
theorem lifted (os : Os) (started : os.Started) (H : Type) (enc : TypeId × Value → H) :
    ReturnsInHanded {} Try.checked os 3 .any (Rows.prefixReadsSpec.pre6 enc Try.prog Try.f3 Rows.prefixReadsRow.domain false) (Rows.prefixReadsSpec.post enc Try.prog Try.f3 false true false false) := by
  refine returnsInHanded_of_change (C := Try.checked) own started (by kernel_rfl) Try.func3
    (ChangeSpec.witness6 (enc := enc) (C := Try.checked) false ⟨#[], #[.slice none 0 0, .string ByteArray.empty, .int .i64 0], []⟩ 8 (by kernel_rfl) (by kernel_rfl) (by kernel_rfl) (by kernel_rfl)) ?_
  intro W base args ds gs before hval0 hW _ _
  have hval : ∀ (j : Nat) t v, Try.f3.params[j]? = some t → args[j]? = some v → Value.okWide Try.prog W .any base t v := hval0
  have hW' := hW
  obtain ⟨p, q, hA0, hV, rfl, hfz, hnd⟩ := hW
  have hA : DataW.TrodAll enc Try.prog W 0 (fun _ => true) true Try.f3.params.toList args.toList ds p := hA0
  rw [Try.params3] at hA hval
  obtain ⟨v0, vs0, d0, ds0, p0, q0, hargs, rfl, rfl, h0, r0⟩ := trodAll_cons hA
  obtain ⟨v1, vs1, d1, ds1, p1, q1, rfl, rfl, rfl, h1, r1⟩ := trodAll_cons r0
  obtain ⟨v2, vs2, d2, ds2, p2, q2, rfl, rfl, rfl, h2, r2⟩ := trodAll_cons r1
  obtain ⟨rfl, rfl, rfl⟩ := trodAll_nil r2
  obtain rfl : args = #[v0, v1, v2] := by cases args; simp_all
  obtain ⟨rfl, rfl⟩ := trodVars_none hV
  obtain ⟨A0, n0, c0, f0, rfl, w0⟩ := open_row Try.underlying22 Try.underlying3 (by kernel_rfl) (hval 0 22 v0 rfl rfl) h0
  obtain ⟨a1, rfl, rfl, rfl, w1⟩ := open_string Try.underlying9 (hval 1 9 v1 rfl rfl) h1
  obtain ⟨a2, rfl, rfl, rfl, w2⟩ := open_int Try.underlying3 (hval 2 3 v2 rfl rfl) h2
  refine (walk A0 n0 c0 f0 a1 a2 W w0 w1 w2).mono fun e W' ⟨he, hb⟩ => ?_
  subst he
  exact ⟨_, rfl, law_post (P := Try.prog) (f := Try.f3) laidOut (by kernel_rfl) (by kernel_rfl) Try.underlying4 rfl hW' rfl hb⟩

theorem proved : Rows.PrefixReadsSaid :=
  OpenClaim.holds_of_wide 3 Try.f3 rfl rfl rfl rfl rfl rfl rfl ⟨rfl, rfl, rfl, rfl, rfl⟩ rfl rfl rfl rfl rfl (by kernel_rfl) Try.func3 (by kernel_rfl)
    (of_decide_eq_true (by kernel_rfl)) (by unfold Func.isWrapper; first | (rw [if_pos (by decide +kernel)]; kernel_rfl) | (rw [if_neg (by decide +kernel)]; exact ⟨rfl, rfl⟩))
    (fun os started H enc _ => lifted os started H enc)
#print axioms proved
end Go.Proofs.Ytiakknbgoahgiaa.prefixReads
