/-
  collimatorlaw08.SpansBack returns true for every number: base and further bits of a distance's and a length's symbol are the number.
  Conditions: none.
-/
import Derived.Test.YtppcpijejeodcaaSk
import Derived.Test.YtppcpijejeodcaaLw
import Derived.OwnWalk
namespace Go.Proofs.Ytppcpijejeodcaa.spansBack
open Go.ChangeShapes Go.WideShapes Go.ChangeAt Go.RowKit
open Go.ChangeMaps (open_string shut_string)
open Go.Proofs.Ytppcpijejeodcaa.Lw Go.Proofs.Ytppcpijejeodcaa.Vm Go.Proofs.Ytppcpijejeodcaa.Na Go.Proofs.Ytppcpijejeodcaa.Bw Go.Proofs.Ytppcpijejeodcaa.Sm Go.Proofs.Ytppcpijejeodcaa.Sb Go.Proofs.Ytppcpijejeodcaa.Sp Go.Proofs.Ytppcpijejeodcaa.Sr Go.Proofs.Ytppcpijejeodcaa.Sk

theorem own : ownKnob Try.prog.godebug = none := by kernel_rfl
theorem laidOut : laidOutB Try.prog = true := by kernel_rfl

/-- 1 << b, as a number. -/
theorem shl_pow (b : Nat) (hb : b ≤ 13) : ∃ P : Nat, P = 2 ^ b ∧ wrap64 (2 ^ b) = (P : Int) ∧ P ≤ 8192 := by
  have h : (2 : Nat) ^ b ≤ 2 ^ 13 := Nat.pow_le_pow_right (by omega) hb
  refine ⟨2 ^ b, rfl, ?_, by omega⟩
  have e : (2 ^ b : Int) = ((2 ^ b : Nat) : Int) := by simp
  rw [e]
  obtain ⟨m, hm⟩ : ∃ m, m = (2 : Nat) ^ b := ⟨_, rfl⟩
  rw [← hm] at h ⊢
  rw [wrap64_in (by omega) (by omega)]

set_option maxHeartbeats 1000000 in
set_option maxRecDepth 100000 in
theorem walk (z : Int) (w0 : (Lit.int .u16 z).wf = true) (w : World) :
    Calls Try.prog 5 #[.int .u16 z] w fun e w' => e = .returned (.bool true) ∧ Below w.heap.size w w' := by
  have hz : 0 ≤ z ∧ z ≤ 65535 := by simpa [Lit.wf, IntKind.min, IntKind.max, IntKind.signed, IntKind.bits] using w0
  obtain ⟨m, rfl⟩ := Int.eq_ofNat_of_zero_le hz.1
  obtain ⟨K, hK, hK0⟩ : ∃ K : Nat, 1 + (m : Int) % 32768 = (K : Int) ∧ K = 1 + m % 32768 := ⟨1 + m % 32768, by omega, rfl⟩
  obtain ⟨J, hJ, hJ0⟩ : ∃ J : Nat, 3 + (m : Int) % 256 = (J : Int) ∧ J = 3 + m % 256 := ⟨3 + m % 256, by omega, rfl⟩
  have k1 : 1 ≤ K := by omega
  have k2 : K ≤ 32768 := by omega
  have j1 : 3 ≤ J := by omega
  have j2 : J ≤ 258 := by omega
  clear hK0 hJ0 w0
  have h1 := OfDist_any (z := (K : Int)) (by omega) (by omega)
  rw [ofD_in k1 k2] at h1
  have h2 := Dist_any (z := (dS K : Int)) (by omega) (by have := dS_le K; omega)
  rw [disA_in (by have := dS_le K; omega)] at h2
  have h3 := OfLength_any (z := (J : Int)) (by omega) (by omega)
  rw [ofL_in j1 j2] at h3
  have h4 := Length_any (z := ((257 + lS J : Nat) : Int)) (by omega) (by have := lS_le J; omega)
  rw [lenA_in (k := lS J) (by omega) (lS_le J)] at h4
  obtain ⟨P, hP, hPw, hPl⟩ := shl_pow (fb 2 (dS K)) (fb2_le (by have := dS_le K; omega))
  obtain ⟨Q, hQ, hQw, hQl⟩ := shl_pow (lb (lS J)) (by have := lb_le (lS_le J); omega)
  obtain ⟨v, hv⟩ : ∃ v, v = K - dB (dS K) := ⟨_, rfl⟩
  obtain ⟨u, hu⟩ : ∃ u, u = J - lB (lS J) := ⟨_, rfl⟩
  have hvx : dB (dS K) + v = K := by have := dS_lo k1; omega
  have hux : lB (lS J) + u = J := by have := lS_lo j1; omega
  have hvP : v < P := by have := dS_hi k1 k2; rw [← hP, ← hv] at this; exact this
  have huQ : u < Q := by have := lS_hi j1 j2; rw [← hQ, ← hu] at this; exact this
  have hfb := fb2_le (show dS K < 30 by have := dS_le K; omega)
  have hlb := lb_le (lS_le J)
  have hsl := lS_le J
  rw [← hv] at h1
  rw [← hu] at h3
  have hxl := dB_le (dS K) (by have := dS_le K; omega)
  have hyl := lB_le (lS J) (lS_le J)
  clear hv hu hP hQ
  generalize fb 2 (dS K) = q at *
  generalize dB (dS K) = x at *
  generalize dS K = s at *
  generalize lb (lS J) = p at *
  generalize lB (lS J) = y at *
  generalize lS J = t at *
  have hvI : (x : Int) + (v : Int) = (K : Int) := by omega
  have huI : (y : Int) + (u : Int) = (J : Int) := by omega
  have H1 := Lib.hid h1
  have H2 := Lib.hid h2
  have H3 := Lib.hid h3
  have H4 := Lib.hid h4
  clear h1 h2 h3 h4
  go_enter Try.func5, Try.ntmps5
  go_wp2_with fail
  refine (H1.out _).mono ?_
  rintro e w1 ⟨rfl, b1⟩
  go_wp2_with fail
  refine (H2.out _).mono ?_
  rintro e w2 ⟨rfl, b2⟩
  go_wp2_with fail
  refine (H3.out _).mono ?_
  rintro e w3 ⟨rfl, b3⟩
  go_wp2_with fail
  refine (H4.out _).mono ?_
  rintro e w4 ⟨rfl, b4⟩
  go_wp2_with fail
  refine (known_any _).mono ?_
  rintro e w5 ⟨rfl, b5⟩
  go_wp2
  go_ret
  exact ⟨rfl, grows b1 (grows b2 (grows b3 (grows b4 b5)))⟩

set_option maxRecDepth 100000 in
theorem lifted (os : Os) (started : os.Started) (H : Type) (enc : TypeId × Value → H) :
    ReturnsInHanded {} Try.checked os 5 .any (Rows.spansBackSpec.pre6 enc Try.prog Try.f5 Rows.spansBackRow.domain false) (Rows.spansBackSpec.post enc Try.prog Try.f5 false true false false) := by
  refine returnsInHanded_of_change (C := Try.checked) own started (by kernel_rfl) Try.func5
    (ChangeSpec.witness6 (enc := enc) (C := Try.checked) false ⟨#[], #[.int .u16 0], []⟩ 8 (by kernel_rfl) (by kernel_rfl) (by kernel_rfl) (by kernel_rfl)) ?_
  intro W base args ds gs before hval0 hW _ _
  have hval : ∀ (j : Nat) t v, Try.f5.params[j]? = some t → args[j]? = some v → Value.okWide Try.prog W .any base t v := hval0
  have hW' := hW
  obtain ⟨p, q, hA0, hV, rfl, hfz, hnd⟩ := hW
  have hA : DataW.TrodAll enc Try.prog W 0 (fun _ => true) true Try.f5.params.toList args.toList ds p := hA0
  rw [Try.params5] at hA hval
  obtain ⟨v0, vs0, d0, ds0, p0, q0, hargs, rfl, rfl, h0, r0⟩ := trodAll_cons hA
  obtain ⟨rfl, rfl, rfl⟩ := trodAll_nil r0
  obtain rfl : args = #[v0] := by cases args; simp_all
  obtain ⟨rfl, rfl⟩ := trodVars_none hV
  obtain ⟨a0, rfl, rfl, rfl, w0⟩ := open_int Try.underlying29 (hval 0 29 v0 rfl rfl) h0
  refine (walk a0 w0 W).mono fun e W' ⟨he, hb⟩ => ?_
  subst he
  exact ⟨_, rfl, law_post (P := Try.prog) (f := Try.f5) laidOut (by kernel_rfl) (by kernel_rfl) Try.underlying4 rfl hW' rfl hb⟩

theorem proved : Rows.SpansBackSaid :=
  OpenClaim.holds_of_wide 5 Try.f5 rfl rfl rfl rfl rfl rfl rfl ⟨rfl, rfl, rfl, rfl, rfl⟩ rfl rfl rfl rfl rfl (by kernel_rfl) Try.func5 (by kernel_rfl)
    (of_decide_eq_true (by kernel_rfl)) (by unfold Func.isWrapper; first | (rw [if_pos (by decide +kernel)]; kernel_rfl) | (rw [if_neg (by decide +kernel)]; exact ⟨rfl, rfl⟩))
    (fun os started H enc _ => lifted os started H enc)
#print axioms proved
end Go.Proofs.Ytppcpijejeodcaa.spansBack
