/-
  collimatorlaw08.SpansOne returns true for every symbol and every further bits: what they stand for has that symbol, but 258 of the symbol 284.
  Conditions: none.
-/
import Derived.Test.YtppcpijejeodcaaSk
import Derived.Test.YtppcpijejeodcaaLw
import Derived.OwnWalk
namespace Go.Proofs.Ytppcpijejeodcaa.spansOne
open Go.ChangeShapes Go.WideShapes Go.ChangeAt Go.RowKit
open Go.ChangeMaps (open_string shut_string)
open Go.Proofs.Ytppcpijejeodcaa.Lw Go.Proofs.Ytppcpijejeodcaa.Vm Go.Proofs.Ytppcpijejeodcaa.Na Go.Proofs.Ytppcpijejeodcaa.Bw Go.Proofs.Ytppcpijejeodcaa.Sm Go.Proofs.Ytppcpijejeodcaa.Sb Go.Proofs.Ytppcpijejeodcaa.Sp Go.Proofs.Ytppcpijejeodcaa.Sr Go.Proofs.Ytppcpijejeodcaa.Sk

theorem own : ownKnob Try.prog.godebug = none := by kernel_rfl
theorem laidOut : laidOutB Try.prog = true := by kernel_rfl

/-- 1 << b, as a number. -/
theorem shl_pow (b : Nat) (hb : b ≤ 13) : ∃ P : Nat, P = 2 ^ b ∧ wrap64 (2 ^ b) = (P : Int) ∧ 0 < P ∧ P ≤ 8192 := by
  have h : (2 : Nat) ^ b ≤ 2 ^ 13 := Nat.pow_le_pow_right (by omega) hb
  refine ⟨2 ^ b, rfl, ?_, Nat.two_pow_pos b, by omega⟩
  have e : (2 ^ b : Int) = ((2 ^ b : Nat) : Int) := by simp
  rw [e]
  obtain ⟨m, hm⟩ : ∃ m, m = (2 : Nat) ^ b := ⟨_, rfl⟩
  rw [← hm] at h ⊢
  rw [wrap64_in (by omega) (by omega)]

set_option maxHeartbeats 1000000 in
set_option maxRecDepth 100000 in
theorem walk_none (z : Int) (f : Int) (hz : -9223372036854775808 ≤ z ∧ z ≤ 9223372036854775807) (h1 : z < 257 ∨ 285 < z) (h2 : z < 0 ∨ 29 < z) (w : World) :
    Calls Try.prog 6 #[.int .i64 z, .int .u16 f] w fun e w' => e = .returned (.bool true) ∧ Below w.heap.size w w' := by
  have h3 := Length_any hz.1 hz.2
  rw [lenA_out h1] at h3
  have h4 := Dist_any hz.1 hz.2
  rw [disA_out h2] at h4
  have H3 := Lib.hid h3
  have H4 := Lib.hid h4
  clear h1 h2 h3 h4
  go_enter Try.func6, Try.ntmps6
  go_wp2_with fail
  refine (H3.out _).mono ?_
  rintro e w1 ⟨rfl, b1⟩
  go_wp2_with fail
  refine (H4.out _).mono ?_
  rintro e w2 ⟨rfl, b2⟩
  go_wp2_with fail
  refine (known_any _).mono ?_
  rintro e w5 ⟨rfl, b5⟩
  go_wp2
  go_ret
  exact ⟨rfl, grows b1 (grows b2 b5)⟩

set_option maxHeartbeats 1000000 in
set_option maxRecDepth 100000 in
theorem walk_dist (k : Nat) (f : Nat) (hf : f ≤ 65535) (hk : k < 30) (w : World) :
    Calls Try.prog 6 #[.int .i64 k, .int .u16 f] w fun e w' => e = .returned (.bool true) ∧ Below w.heap.size w w' := by
  have h3 := Length_any (z := (k : Int)) (by omega) (by omega)
  rw [lenA_out (by omega)] at h3
  have h4 := Dist_any (z := (k : Int)) (by omega) (by omega)
  rw [disA_in hk] at h4
  have hq := fb2_le hk
  obtain ⟨P, hP, hPw, hP0, hPl⟩ := shl_pow (fb 2 k) hq
  obtain ⟨v, hv⟩ : ∃ v, v = f % P := ⟨_, rfl⟩
  have hvP : v < P := by rw [hv]; exact Nat.mod_lt _ hP0
  have hv1 : (f : Int) % (P : Int) = (v : Int) := by rw [hv]; rfl
  have hv2 : (f : Int).tmod (P : Int) = (v : Int) := by rw [hv]; rfl
  have hs := dB_sum hk (v := v) (by rw [← hP]; exact hvP)
  have e1 := dS_of hk (v := v) (by rw [← hP]; exact hvP)
  have h5 := OfDist_any (z := ((dB k + v : Nat) : Int)) (by omega) (by omega)
  rw [ofD_in hs.1 hs.2, e1, show dB k + v - dB k = v by omega] at h5
  clear e1 hv hP
  generalize fb 2 k = q at *
  generalize dB k = x at *
  obtain ⟨n, hn⟩ : ∃ n, n = x + v := ⟨_, rfl⟩
  rw [← hn] at h5
  have hnI : (x : Int) + (v : Int) = (n : Int) := by omega
  clear hn
  have H3 := Lib.hid h3
  have H4 := Lib.hid h4
  have H5 := Lib.hid h5
  clear h3 h4 h5
  go_enter Try.func6, Try.ntmps6
  go_wp2_with fail
  refine (H3.out _).mono ?_
  rintro e w1 ⟨rfl, b1⟩
  go_wp2_with fail
  refine (H4.out _).mono ?_
  rintro e w2 ⟨rfl, b2⟩
  go_wp2_with fail
  refine (H5.out _).mono ?_
  rintro e w3 ⟨rfl, b3⟩
  go_wp2_with fail
  refine (known_any _).mono ?_
  rintro e w5 ⟨rfl, b5⟩
  go_wp2
  go_ret
  exact ⟨rfl, grows b1 (grows b2 (grows b3 b5))⟩

set_option maxHeartbeats 1000000 in
set_option maxRecDepth 100000 in
theorem walk_len (z : Int) (k : Nat) (hzk : z - 257 = (k : Int)) (f : Nat) (hf : f ≤ 65535) (hk : k ≤ 28) (w : World) :
    Calls Try.prog 6 #[.int .i64 z, .int .u16 f] w fun e w' => e = .returned (.bool true) ∧ Below w.heap.size w w' := by
  have h3 := Length_any (z := z) (by omega) (by omega)
  rw [lenA_in hzk hk] at h3
  have h4 := Dist_any (z := z) (by omega) (by omega)
  rw [disA_out (by omega)] at h4
  have hq := lb_le hk
  obtain ⟨P, hP, hPw, hP0, hPl⟩ := shl_pow (lb k) (by omega)
  obtain ⟨v, hv⟩ : ∃ v, v = f % P := ⟨_, rfl⟩
  have hvP : v < P := by rw [hv]; exact Nat.mod_lt _ hP0
  have hv1 : (f : Int) % (P : Int) = (v : Int) := by rw [hv]; rfl
  have hv2 : (f : Int).tmod (P : Int) = (v : Int) := by rw [hv]; rfl
  have hvl : v < 2 ^ lb k := by rw [← hP]; exact hvP
  have hs := lB_sum hk hvl
  have h5 := OfLength_any (z := ((lB k + v : Nat) : Int)) (by omega) (by omega)
  rw [ofL_in hs.1 hs.2] at h5
  by_cases h8 : lB k + v = 258
  · rw [h8, lS_top] at h5
    clear hv hP hvl
    generalize lb k = q at *
    generalize lB k = x at *
    have hnI : (x : Int) + (v : Int) = 258 := by omega
    have H3 := Lib.hid h3
    have H4 := Lib.hid h4
    have H5 := Lib.hid (show ∀ w, Calls Try.prog 12 #[.int .i64 258] w fun e w' => e = .returned (.tuple #[.int .i64 285, .int .i64 0, .int .i64 0, .int .i64 0]) ∧ Below w.heap.size w w' from h5)
    clear h3 h4 h5 h8 hzk
    go_enter Try.func6, Try.ntmps6
    go_wp2_with fail
    refine (H3.out _).mono ?_
    rintro e w1 ⟨rfl, b1⟩
    go_wp2_with fail
    refine (H5.out _).mono ?_
    rintro e w3 ⟨rfl, b3⟩
    go_wp2_with fail
    refine (H4.out _).mono ?_
    rintro e w2 ⟨rfl, b2⟩
    go_wp2_with fail
    refine (known_any _).mono ?_
    rintro e w5 ⟨rfl, b5⟩
    go_wp2
    go_ret
    exact ⟨rfl, grows b1 (grows b3 (grows b2 b5))⟩
  · rw [lS_of hk hvl h8, show lB k + v - lB k = v by omega, show (((257 + k : Nat)) : Int) = z by omega] at h5
    clear hv hP hvl
    generalize lb k = q at *
    generalize lB k = x at *
    obtain ⟨n, hn⟩ : ∃ n, n = x + v := ⟨_, rfl⟩
    rw [← hn] at h5 h8
    have hnI : (x : Int) + (v : Int) = (n : Int) := by omega
    have hn8 : ¬ (n : Int) = 258 := by omega
    clear hn
    have H3 := Lib.hid h3
    have H4 := Lib.hid h4
    have H5 := Lib.hid h5
    clear h3 h4 h5 hzk
    go_enter Try.func6, Try.ntmps6
    go_wp2_with fail
    refine (H3.out _).mono ?_
    rintro e w1 ⟨rfl, b1⟩
    go_wp2_with fail
    refine (H5.out _).mono ?_
    rintro e w3 ⟨rfl, b3⟩
    go_wp2_with fail
    refine (H4.out _).mono ?_
    rintro e w2 ⟨rfl, b2⟩
    go_wp2_with fail
    refine (known_any _).mono ?_
    rintro e w5 ⟨rfl, b5⟩
    go_wp2
    go_ret
    exact ⟨rfl, grows b1 (grows b3 (grows b2 b5))⟩

theorem walk (z f : Int) (w0 : (Lit.int .i64 z).wf = true) (w1 : (Lit.int .u16 f).wf = true) (w : World) :
    Calls Try.prog 6 #[.int .i64 z, .int .u16 f] w fun e w' => e = .returned (.bool true) ∧ Below w.heap.size w w' := by
  have hz : -9223372036854775808 ≤ z ∧ z ≤ 9223372036854775807 := by simpa [Lit.wf, IntKind.min, IntKind.max, IntKind.signed, IntKind.bits] using w0
  have hf : 0 ≤ f ∧ f ≤ 65535 := by simpa [Lit.wf, IntKind.min, IntKind.max, IntKind.signed, IntKind.bits] using w1
  obtain ⟨m, rfl⟩ := Int.eq_ofNat_of_zero_le hf.1
  rcases (show (0 ≤ z ∧ z ≤ 29) ∨ (257 ≤ z ∧ z ≤ 285) ∨ ((z < 257 ∨ 285 < z) ∧ (z < 0 ∨ 29 < z)) by omega) with h | h | h
  · obtain ⟨k, rfl⟩ := Int.eq_ofNat_of_zero_le h.1
    exact walk_dist k m (by omega) (by omega) w
  · exact walk_len z (z - 257).toNat (by omega) m (by omega) (by omega) w
  · exact walk_none z m hz h.1 h.2 w

set_option maxRecDepth 100000 in
theorem lifted (os : Os) (started : os.Started) (H : Type) (enc : TypeId × Value → H) :
    ReturnsInHanded {} Try.checked os 6 .any (Rows.spansOneSpec.pre6 enc Try.prog Try.f6 Rows.spansOneRow.domain false) (Rows.spansOneSpec.post enc Try.prog Try.f6 false true false false) := by
  refine returnsInHanded_of_change (C := Try.checked) own started (by kernel_rfl) Try.func6
    (ChangeSpec.witness6 (enc := enc) (C := Try.checked) false ⟨#[], #[.int .i64 0, .int .u16 0], []⟩ 8 (by kernel_rfl) (by kernel_rfl) (by kernel_rfl) (by kernel_rfl)) ?_
  intro W base args ds gs before hval0 hW _ _
  have hval : ∀ (j : Nat) t v, Try.f6.params[j]? = some t → args[j]? = some v → Value.okWide Try.prog W .any base t v := hval0
  have hW' := hW
  obtain ⟨p, q, hA0, hV, rfl, hfz, hnd⟩ := hW
  have hA : DataW.TrodAll enc Try.prog W 0 (fun _ => true) true Try.f6.params.toList args.toList ds p := hA0
  rw [Try.params6] at hA hval
  obtain ⟨v0, vs0, d0, ds0, p0, q0, hargs, rfl, rfl, h0, r0⟩ := trodAll_cons hA
  obtain ⟨v1, vs1, d1, ds1, p1, q1, rfl, rfl, rfl, h1, r1⟩ := trodAll_cons r0
  obtain ⟨rfl, rfl, rfl⟩ := trodAll_nil r1
  obtain rfl : args = #[v0, v1] := by cases args; simp_all
  obtain ⟨rfl, rfl⟩ := trodVars_none hV
  obtain ⟨a0, rfl, rfl, rfl, w0⟩ := open_int Try.underlying3 (hval 0 3 v0 rfl rfl) h0
  obtain ⟨a1, rfl, rfl, rfl, w1⟩ := open_int Try.underlying29 (hval 1 29 v1 rfl rfl) h1
  refine (walk a0 a1 w0 w1 W).mono fun e W' ⟨he, hb⟩ => ?_
  subst he
  exact ⟨_, rfl, law_post (P := Try.prog) (f := Try.f6) laidOut (by kernel_rfl) (by kernel_rfl) Try.underlying4 rfl hW' rfl hb⟩

theorem proved : Rows.SpansOneSaid :=
  OpenClaim.holds_of_wide 6 Try.f6 rfl rfl rfl rfl rfl rfl rfl ⟨rfl, rfl, rfl, rfl, rfl⟩ rfl rfl rfl rfl rfl (by kernel_rfl) Try.func6 (by kernel_rfl)
    (of_decide_eq_true (by kernel_rfl)) (by unfold Func.isWrapper; first | (rw [if_pos (by decide +kernel)]; kernel_rfl) | (rw [if_neg (by decide +kernel)]; exact ⟨rfl, rfl⟩))
    (fun os started H enc _ => lifted os started H enc)
#print axioms proved
end Go.Proofs.Ytppcpijejeodcaa.spansOne
