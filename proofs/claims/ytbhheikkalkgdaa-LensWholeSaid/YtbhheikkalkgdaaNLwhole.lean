/-
  collimatorlaw05.LensWhole returns true for every list of lengths and every sixteen bits: of lengths that fit, fifteen bits begin with just one code.
  Conditions: none.
-/
import Derived.Test.YtbhheikkalkgdaaNk
import Derived.Test.YtbhheikkalkgdaaNy
import Derived.Test.YtbhheikkalkgdaaNw
import Derived.Test.YtbhheikkalkgdaaLw
namespace Go.Proofs.Ytbhheikkalkgdaa.lensWhole
open Go.ChangeShapes Go.WideShapes Go.ChangeAt Go.RowKit
open Go.ChangeMaps (open_string shut_string)
open Go.Proofs.Ytbhheikkalkgdaa.Lw Go.Proofs.Ytbhheikkalkgdaa.Vm Go.Proofs.Ytbhheikkalkgdaa.Na Go.Proofs.Ytbhheikkalkgdaa.Nm Go.Proofs.Ytbhheikkalkgdaa.Nw Go.Proofs.Ytbhheikkalkgdaa.Bw Go.Proofs.Ytbhheikkalkgdaa.Ni Go.Proofs.Ytbhheikkalkgdaa.Nc Go.Proofs.Ytbhheikkalkgdaa.Nd Go.Proofs.Ytbhheikkalkgdaa.Ne Go.Proofs.Ytbhheikkalkgdaa.Nf Go.Proofs.Ytbhheikkalkgdaa.Ng Go.Proofs.Ytbhheikkalkgdaa.Nh Go.Proofs.Ytbhheikkalkgdaa.Nk Go.Proofs.Ytbhheikkalkgdaa.Ny

theorem own : ownKnob Try.prog.godebug = none := by kernel_rfl
theorem laidOut : laidOutB Try.prog = true := by kernel_rfl

theorem fit_whole {n : Nat} {f : Nat → Int} (h : fit n f false = 0) : err n f = 0 ∧ ksum (L n f) 16 = 32768 := by
  by_cases he : err n f = 0
  · refine ⟨he, ?_⟩
    rw [fit_ok he] at h
    unfold fitR at h
    by_cases hk : ksum (L n f) 16 = 32768
    · exact hk
    · rw [if_neg hk, if_neg (by simp)] at h
      split at h <;> omega
  · rw [fit_err he] at h; exact absurd h he

set_option maxHeartbeats 1000000 in
set_option maxRecDepth 100000 in
theorem coded {A : Option Addr} {n cap : Nat} {f : Nat → Int} {w : World} (a : Nat) (ha : a < 65536) (hf : fit n f false = 0) (HC : Hid (row w A n f)) :
    Calls Try.prog 5 #[.slice A n cap, .int .u16 a] w fun e w' => e = .returned (.bool true) ∧ Below w.heap.size w w' := by
  obtain ⟨he, hk⟩ := fit_whole hf
  obtain ⟨h1, h2, h3⟩ := err_zero he
  have hFi := Fits_any (cap := cap) false (by omega) HC
  rw [hf] at hFi
  have HFi := Lib.hid hFi
  have HO := Lib.hid (fun (u : World) (HC : Hid (row u A n f)) => Codes_ok (cap := cap) he HC)
  have hKr := fun (u : World) (HC : Hid (row u A n f)) => Kraft_any (cap := cap) (by omega) HC
  rw [kra_ok (bad_ok h1 h2), hk] at hKr
  have HKr := Lib.hid hKr
  have HR := Lib.hid (L_row h2 HC.out)
  have H15 := Lib.hid (L_le h2)
  have HW := Lib.hid (hits_whole (v := a % 32768) (L_le h2) hk (Nat.mod_lt _ (by omega)))
  obtain ⟨l, hl⟩ : ∃ l, l = L n f := ⟨_, rfl⟩
  have hln : Hid (l.length = n) := Lib.hid (by rw [hl, L_length])
  rw [← hl] at HO HR H15 h3 HW
  have H3 := Lib.hid h3
  obtain ⟨v, hv⟩ : ∃ v, v = a % 32768 := ⟨_, rfl⟩
  have ev : ((a : Int).tmod 32768) = (v : Int) := by rw [hv]; rfl
  have hvb : v < 32768 := by rw [hv]; exact Nat.mod_lt _ (by omega)
  rw [← hv] at HW
  clear hl h2 h3 he hk hFi hKr hf hv
  go_enter Try.func5, Try.ntmps5
  go_wp2_with fail
  refine HFi.out.mono ?_
  rintro e w1 ⟨rfl, b1⟩
  have B1 := Lib.hid b1
  clear b1 HFi
  go_wp2_with fail
  refine (HO.out _ (Lib.hid (HC.out.below B1.out))).mono ?_
  rintro e w2 ⟨g, rfl, hg, _, b2⟩
  have B2 := Lib.hid (grows B1.out b2)
  have G2 := Lib.hid hg
  clear b2 hg HO B1
  go_wp2_with fail
  refine (HKr.out _ (Lib.hid (HC.out.below B2.out))).mono ?_
  rintro e w3 ⟨rfl, b3⟩
  have B3 := Lib.hid (grows B2.out b3)
  have G3 := Lib.hid (G2.out.below b3)
  clear b3 G2 B2 HKr
  go_wp2
  go_loopw [9, 8] (fun s c wr => ∃ i : Nat, s = .int .i64 i ∧ c = .int .i64 (hits l v i) ∧ i ≤ n ∧ Hid (Blk wr g 3 (arr n (fun i => (code l i : Int)))) ∧ Hid (Below w.heap.size w wr)) (fun s _ _ => n - (intOf s).toNat)
  case atStart => exact ⟨0, rfl, rfl, by omega, G3, B3⟩
  case round =>
    obtain ⟨i, rfl, rfl, hi, G4, B4⟩ := hrel
    clear G3 B3
    by_cases hin : i < n
    · have hil : Hid (i < l.length) := Lib.hid (by rw [hln.out]; exact hin)
      obtain ⟨b1, off, rfl, hbl, hx⟩ := HR.out.get (k := i) hil.out
      have kx := (B4.out.cell (p := ⟨b1, off + i, none⟩) hbl).trans hx
      have ci := (G4.out.cell i).trans (arr_get _ hin)
      have hx15 := H15.out i
      have HN : Hid (hits l v (i + 1) = hits l v i + if (0 < nth l i ∧ v / 2 ^ (15 - nth l i) = code l i) then 1 else 0) := Lib.hid (by rw [hits]; rfl)
      have hle := hits_le l v i
      obtain ⟨c, hc⟩ : ∃ c, c = hits l v i := ⟨_, rfl⟩
      obtain ⟨x, hxx⟩ : ∃ x, x = nth l i := ⟨_, rfl⟩
      obtain ⟨C, hC⟩ : ∃ C, C = code l i := ⟨_, rfl⟩
      rw [← hxx] at kx hx15 HN
      rw [← hC] at ci HN
      rw [← hc] at HN hle ⊢
      clear hx hxx hC hc
      rcases Nat.eq_zero_or_pos x with hx0 | h0
      · have hx0' : decide (0 < x) = false := by simp; omega
        have HN' : Hid (hits l v (i + 1) = c) := Lib.hid (by rw [HN.out, if_neg (by omega)]; rfl)
        clear hx0 HN
        go_wp2
        go_quiet (fail)
        go_wp2
        go_roundw
        case rel => exact ⟨i + 1, by go_num, by rw [HN'.out], by omega, Lib.hid (G4.out.draws _), Lib.hid (below_drews B4.out _)⟩
        case measure => simp [intOf]; omega
      · have hx15' : (x : Int) ≤ 15 := by omega
        by_cases hq : v / 2 ^ (15 - x) = C
        · have hq' : ((v : Int) / 2 ^ (15 - x) == (C : Int)) = true := by
            have e2 : ((v / 2 ^ (15 - x) : Nat) : Int) = (v : Int) / 2 ^ (15 - x) := by simp
            rw [← e2, hq]; simp
          have HN' : Hid (hits l v (i + 1) = c + 1) := Lib.hid (by rw [HN.out, if_pos ⟨h0, hq⟩])
          clear HN hq
          go_wp2
          go_quiet (fail)
          go_wp2
          go_roundw
          case rel => exact ⟨i + 1, by go_num, by rw [HN'.out]; simp, by omega, Lib.hid (G4.out.draws _), Lib.hid (below_drews B4.out _)⟩
          case measure => simp [intOf]; omega
        · have hq' : ((v : Int) / 2 ^ (15 - x) == (C : Int)) = false := by
            rw [beq_eq_false_iff_ne]
            intro e
            apply hq
            have e2 : ((v / 2 ^ (15 - x) : Nat) : Int) = (C : Int) := by rw [← e]; simp
            exact Int.ofNat.inj e2
          have HN' : Hid (hits l v (i + 1) = c) := Lib.hid (by rw [HN.out, if_neg (fun h => hq h.2)]; rfl)
          clear HN hq
          go_wp2
          go_quiet (fail)
          go_wp2
          go_roundw
          case rel => exact ⟨i + 1, by go_num, by rw [HN'.out], by omega, Lib.hid (G4.out.draws _), Lib.hid (below_drews B4.out _)⟩
          case measure => simp [intOf]; omega
    · have hi8 : Hid (hits l v i = 1) := Lib.hid (by rw [show i = l.length by rw [hln.out]; omega]; exact HW.out)
      rw [hi8.out]
      go_wp2_with (go_at_call 7; refine (known_any _).mono ?_; rintro e w' ⟨rfl, hb⟩)
      go_ret
      exact ⟨rfl, grows B4.out hb⟩

set_option maxRecDepth 100000 in
theorem walk (A : Option Addr) (n cap : Nat) (f : Nat → Int) (a : Int) (w : World) (w0 : n ≤ 9223372036854775807 ∧ row w A n f) (w1 : (Lit.int .u16 a).wf = true) :
    Calls Try.prog 5 #[.slice A n cap, .int .u16 a] w fun e w' => e = .returned (.bool true) ∧ Below w.heap.size w w' := by
  obtain ⟨hn, hr⟩ := w0
  have HC := Lib.hid hr
  clear hr
  have ha : 0 ≤ a ∧ a ≤ 65535 := by simpa [Lit.wf, IntKind.min, IntKind.max, IntKind.signed, IntKind.bits] using w1
  clear w1
  by_cases h320 : 320 < n
  · go_enter Try.func5, Try.ntmps5
    go_wp2_with (go_at_call 7; refine (known_any _).mono ?_; rintro e w' ⟨rfl, hb⟩)
    go_ret
    exact ⟨rfl, hb⟩
  · by_cases he : fit n f false = 0
    · obtain ⟨a, rfl⟩ := Int.eq_ofNat_of_zero_le ha.1
      exact coded a (by omega) he HC
    · have HU := Lib.hid (Fits_any (cap := cap) false hn HC)
      obtain ⟨e, hee⟩ : ∃ e, e = fit n f false := ⟨_, rfl⟩
      rw [← hee] at HU he
      have he' : (e != 0) = true := by simp [he]
      clear hee HC
      go_enter Try.func5, Try.ntmps5
      go_wp2_with fail
      refine HU.out.mono ?_
      rintro e w1 ⟨rfl, b1⟩
      go_wp2_with (go_at_call 7; refine (known_any _).mono ?_; rintro e w' ⟨rfl, hb⟩)
      go_ret
      exact ⟨rfl, grows b1 hb⟩

set_option maxRecDepth 100000 in
theorem lifted (os : Os) (started : os.Started) (H : Type) (enc : TypeId × Value → H) :
    ReturnsInHanded {} Try.checked os 5 .any (Rows.lensWholeSpec.pre6 enc Try.prog Try.f5 Rows.lensWholeRow.domain false) (Rows.lensWholeSpec.post enc Try.prog Try.f5 false true false false) := by
  refine returnsInHanded_of_change (C := Try.checked) own started (by kernel_rfl) Try.func5
    (ChangeSpec.witness6 (enc := enc) (C := Try.checked) false ⟨#[], #[.slice none 0 0, .int .u16 0], []⟩ 8 (by kernel_rfl) (by kernel_rfl) (by kernel_rfl) (by kernel_rfl)) ?_
  intro W base args ds gs before hval0 hW _ _
  have hval : ∀ (j : Nat) t v, Try.f5.params[j]? = some t → args[j]? = some v → Value.okWide Try.prog W .any base t v := hval0
  have hW' := hW
  obtain ⟨p, q, hA0, hV, rfl, hfz, hnd⟩ := hW
  have hA : DataW.TrodAll enc Try.prog W 0 (fun _ => true) true Try.f5.params.toList args.toList ds p := hA0
  rw [Try.params5] at hA hval
  obtain ⟨v0, vs0, d0, ds0, p0, q0, hargs, rfl, rfl, h0, r0⟩ := trodAll_cons hA
  obtain ⟨v1, vs1, d1, ds1, p1, q1, rfl, rfl, rfl, h1, r1⟩ := trodAll_cons r0
  obtain ⟨rfl, rfl, rfl⟩ := trodAll_nil r1
  obtain rfl : args = #[v0, v1] := by cases args; simp_all
  obtain ⟨rfl, rfl⟩ := trodVars_none hV
  obtain ⟨A0, n0, c0, f0, rfl, w0⟩ := open_row Try.underlying22 Try.underlying3 (by kernel_rfl) (hval 0 22 v0 rfl rfl) h0
  obtain ⟨a1, rfl, rfl, rfl, w1⟩ := open_int Try.underlying33 (hval 1 33 v1 rfl rfl) h1
  refine (walk A0 n0 c0 f0 a1 W w0 w1).mono fun e W' ⟨he, hb⟩ => ?_
  subst he
  exact ⟨_, rfl, law_post (P := Try.prog) (f := Try.f5) laidOut (by kernel_rfl) (by kernel_rfl) Try.underlying4 rfl hW' rfl hb⟩

theorem proved : Rows.LensWholeSaid :=
  OpenClaim.holds_of_wide 5 Try.f5 rfl rfl rfl rfl rfl rfl rfl ⟨rfl, rfl, rfl, rfl, rfl⟩ rfl rfl rfl rfl rfl (by kernel_rfl) Try.func5 (by kernel_rfl)
    (of_decide_eq_true (by kernel_rfl)) (by unfold Func.isWrapper; first | (rw [if_pos (by decide +kernel)]; kernel_rfl) | (rw [if_neg (by decide +kernel)]; exact ⟨rfl, rfl⟩))
    (fun os started H enc _ => lifted os started H enc)
#print axioms proved
end Go.Proofs.Ytbhheikkalkgdaa.lensWhole
