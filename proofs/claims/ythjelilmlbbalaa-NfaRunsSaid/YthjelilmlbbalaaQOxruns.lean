/-
  collimatorlaw17.NfaRuns: of any automaton whether it is right, where it goes and what it tells is what the reference's functions answer.
  Conditions: none. The walk of the call (made by tools/gennfaruns17.py).
-/
import Derived.Test.YthjelilmlbbalaaQaz
import Derived.StillTailTactics
import Derived.BigQuiet
import Derived.BigRegion
namespace Go.Proofs.Ythjelilmlbbalaa.Oxruns
open Go.RowKit Go.PlainAid Go.Proofs.Ythjelilmlbbalaa.Vm Go.Proofs.Ythjelilmlbbalaa.Vo Go.Proofs.Ythjelilmlbbalaa.Bw Go.Proofs.Ythjelilmlbbalaa.Na Go.Proofs.Ythjelilmlbbalaa.Ko Go.Proofs.Ythjelilmlbbalaa.Tm Go.Proofs.Ythjelilmlbbalaa.Rs Go.Proofs.Ythjelilmlbbalaa.Rm Go.Proofs.Ythjelilmlbbalaa.Ra Go.Proofs.Ythjelilmlbbalaa.An Go.Proofs.Ythjelilmlbbalaa.Aa Go.Proofs.Ythjelilmlbbalaa.Ab Go.Proofs.Ythjelilmlbbalaa.Ac Go.Proofs.Ythjelilmlbbalaa.Ad Go.Proofs.Ythjelilmlbbalaa.Ae Go.Proofs.Ythjelilmlbbalaa.As Go.Proofs.Ythjelilmlbbalaa.Aw Go.Proofs.Ythjelilmlbbalaa.Ax Go.Proofs.Ythjelilmlbbalaa.Oa Go.Proofs.Ythjelilmlbbalaa.Oe Go.Proofs.Ythjelilmlbbalaa.Of Go.Proofs.Ythjelilmlbbalaa.On Go.Proofs.Ythjelilmlbbalaa.Op

set_option maxHeartbeats 4000000 in
set_option maxRecDepth 100000 in
/-- The last region: a byte is chosen. -/
theorem walk (A1 A2 : Option Addr) (c1 c2 : Nat) (A : Au) (As : Option Addr) (cs : Nat) (D : List Int) (s : ByteArray) (W : World) (_hc0 : A.E.length ≤ c1) (_hd0 : A.R.length ≤ c2) (w0 : nfa W A1 A2 A) (_z0 : ∀ z ∈ A.R, in64 z) (_hc1 : D.length ≤ cs) (w1 : row W As D.length (at0 D)) (_z1 : ∀ z ∈ D, in64 z) (_w2 : s.size ≤ maxLen) :
    Calls Try.prog 5 #[.agg #[.slice A1 A.E.length c1, .int .i64 A.first, .slice A2 A.R.length c2], .slice As D.length cs, .string s] W fun e w' => e = .returned (.bool true) ∧ Below W.heap.size W w' := by
  have HKN := Lib.hid (fun u => known_any u)
  have hED : Hid (∀ u, Below W.heap.size W u → Calls Try.prog 19 #[.agg #[.slice A1 A.E.length c1, .int .i64 A.first, .slice A2 A.R.length c2]] u fun e w' => ansE A u e w') := Lib.hid (fun u k => rEdges_any (c1 := c1) (c2 := c2) (Lib.hid (w0.below k)))
  have HA := Lib.hid w0
  have HD := Lib.hid w1
  have hb := get_bt s
  obtain ⟨N, hN⟩ : ∃ N, N = A.E.length := ⟨_, rfl⟩
  obtain ⟨M, hM⟩ : ∃ M, M = A.R.length := ⟨_, rfl⟩
  obtain ⟨F, hF⟩ : ∃ F, F = A.first := ⟨_, rfl⟩
  obtain ⟨n, hn⟩ : ∃ n, n = D.length := ⟨_, rfl⟩
  have GN := Lib.hid hN
  have GM := Lib.hid hM
  have GF := Lib.hid hF
  have Gn := Lib.hid hn
  rw [← hN, ← hM, ← hF] at hED
  rw [← hN, ← hM, ← hF, ← hn]
  have KW := Lib.hid (below_alloc W (.cells #[.slice A1 N c1, .int .i64 F, .slice A2 M c2] 28))
  have HBX := Lib.hid (Blk.fresh W 28 #[.slice A1 N c1, .int .i64 F, .slice A2 M c2])
  have q0 := HBX.out.cell 0
  have q1 := HBX.out.cell 1
  have q2 := HBX.out.cell 2
  clear w0 w1 hN hM hF hn
  go_enter Try.func5, Try.ntmps5
  go_upto_region 2 with (go_at_call 19; (with_reducible refine (hED.out _ KW.out).mono ?_); rintro e wk ⟨k, rfl, hk, kE⟩; have HK := Lib.hid hk; have HBX := Lib.hid (HBX.out.below kE); have KW := Lib.hid (KW.out.trans (kE.mono KW.out.size)); clear hk kE q0 q1 q2)
  have q0 := HBX.out.cell 0
  have q1 := HBX.out.cell 1
  have q2 := HBX.out.cell 2
  by_cases h1 : k < 0
  · go_wp2_with (go_at_call 8; refine (HKN.out _).mono ?_; rintro e u ⟨rfl, k⟩; have KW := Lib.hid (KW.out.trans (k.mono KW.out.size)); clear k)
    go_ret
    exact ⟨rfl, KW.out⟩
  by_cases h2 : 300 < k
  · go_wp2_with (go_at_call 8; refine (HKN.out _).mono ?_; rintro e u ⟨rfl, k⟩; have KW := Lib.hid (KW.out.trans (k.mono KW.out.size)); clear k)
    go_ret
    exact ⟨rfl, KW.out⟩
  by_cases h3 : 100 < n
  · have h3' : (100 : Int) < (n : Int) := by omega
    go_wp2_with (go_at_call 8; refine (HKN.out _).mono ?_; rintro e u ⟨rfl, k⟩; have KW := Lib.hid (KW.out.trans (k.mono KW.out.size)); clear k)
    go_ret
    exact ⟨rfl, KW.out⟩
  by_cases h4 : 30 < s.size
  · have h3' : ¬ (100 : Int) < (n : Int) := by omega
    have h4' : (30 : Int) < (s.size : Int) := by omega
    go_wp2_with (go_at_call 8; refine (HKN.out _).mono ?_; rintro e u ⟨rfl, k⟩; have KW := Lib.hid (KW.out.trans (k.mono KW.out.size)); clear k)
    go_ret
    exact ⟨rfl, KW.out⟩
  obtain ⟨a1, a2, a3⟩ := HK.out (by omega)
  have hE : A.E.length ≤ 1000000 := by omega
  have hM : A.R.length ≤ 1000000 := by omega
  have hrow : ∀ l ∈ A.E, l.length ≤ 1000000 := fun l hl => by have := a3 l hl; omega
  have hD : D.length ≤ 1000000 := by rw [← Gn.out]; omega
  have h3' : ¬ (100 : Int) < (n : Int) := by omega
  have h4' : ¬ (30 : Int) < (s.size : Int) := by omega
  have hs : s.size ≤ 1000000 := by omega
  obtain ⟨c, x, hc, hxc, hcv⟩ : ∃ (c : Nat) (x : Int), c < 256 ∧ x = (c : Int) ∧ ((s.size = 0 ∧ x = 0) ∨ (0 < s.size ∧ x = bt s 0)) := by
    by_cases h0 : s.size = 0
    · exact ⟨0, 0, by omega, rfl, .inl ⟨h0, rfl⟩⟩
    · exact ⟨(s[0]'(by omega)).toNat, _, UInt8.toNat_lt _, rfl, .inr ⟨by omega, by unfold bt; rw [dif_pos (by omega)]⟩⟩
  have HC1 : Hid (∀ u, Below W.heap.size W u → Calls Try.prog 20 #[.agg #[.slice A1 N c1, .int .i64 F, .slice A2 M c2], .slice As n cs] u fun e w' => ansU A (clo A.E (fun q => (q : Int) ∈ D)) u e w') := Lib.hid (fun u k => by rw [GN.out, GM.out, GF.out, Gn.out]; exact (Closure_any hE hM hrow hD (Lib.hid (HA.out.below k)) (Lib.hid (HD.out.below k))).mono fun e w' h => ansU_of h)
  have HC2 : Hid (∀ u, Below W.heap.size W u → Calls Try.prog 21 #[.agg #[.slice A1 N c1, .int .i64 F, .slice A2 M c2], .slice As n cs] u fun e w' => ansU A (clo A.E (fun q => (q : Int) ∈ D)) u e w') := Lib.hid (fun u k => by rw [GN.out, GM.out, GF.out, Gn.out]; exact (rClosure_any hE hM hrow hD (Lib.hid (HA.out.below k)) (Lib.hid (HD.out.below k))).mono fun e w' h => ansU_of h)
  have HS1 : Hid (∀ u, Below W.heap.size W u → Calls Try.prog 22 #[.agg #[.slice A1 N c1, .int .i64 F, .slice A2 M c2], .slice As n cs, .int .u8 x] u fun e w' => ansU A (stp A.E c (fun q => (q : Int) ∈ D)) u e w') := Lib.hid (fun u k => by rw [GN.out, GM.out, GF.out, Gn.out, hxc]; exact (Step_any hE hM hrow hc hD (Lib.hid (HA.out.below k)) (Lib.hid (HD.out.below k))).mono fun e w' h => ansU_of h)
  have HS2 : Hid (∀ u, Below W.heap.size W u → Calls Try.prog 23 #[.agg #[.slice A1 N c1, .int .i64 F, .slice A2 M c2], .slice As n cs, .int .u8 x] u fun e w' => ansU A (stp A.E c (fun q => (q : Int) ∈ D)) u e w') := Lib.hid (fun u k => by rw [GN.out, GM.out, GF.out, Gn.out, hxc]; exact (rStep_any hE hM hrow hD (Lib.hid (HA.out.below k)) (Lib.hid (HD.out.below k)) hc).mono fun e w' h => ansU_of h)
  have HU1 : Hid (∀ u, Below W.heap.size W u → Calls Try.prog 16 #[.agg #[.slice A1 N c1, .int .i64 F, .slice A2 M c2], .string s] u fun e w' => ansU A (rul A (runs A.E A.first.toNat (nb s.data.toList))) u e w') := Lib.hid (fun u k => by rw [GN.out, GM.out, GF.out]; exact (Run_any hE hM hrow hs (Lib.hid (HA.out.below k))).mono fun e w' h => ansU_of h)
  have HU2 : Hid (∀ u, Below W.heap.size W u → Calls Try.prog 18 #[.agg #[.slice A1 N c1, .int .i64 F, .slice A2 M c2], .string s] u fun e w' => ansU A (rul A (runs A.E A.first.toNat (nb s.data.toList))) u e w') := Lib.hid (fun u k => by rw [GN.out, GM.out, GF.out]; exact (rRun_any hE hM hrow hs (Lib.hid (HA.out.below k))).mono fun e w' h => ansU_of h)
  obtain ⟨b, hb1⟩ : ∃ b : Bool, b = true ↔ okA A := by
    by_cases ho : okA A
    · exact ⟨true, by simp [ho]⟩
    · exact ⟨false, by simp [ho]⟩
  have HR1 : Hid (∀ u, Below W.heap.size W u → Calls Try.prog 14 #[.agg #[.slice A1 N c1, .int .i64 F, .slice A2 M c2]] u fun e w' => e = .returned (.bool b) ∧ Below u.heap.size u w') := Lib.hid (fun u k => by rw [GN.out, GM.out, GF.out]; exact (Right_any hE hM hrow (Lib.hid (HA.out.below k))).mono fun e w' ⟨x, h, hx, k⟩ => ⟨by rw [h, Bool.eq_iff_iff.2 (hx.trans hb1.symm)], k⟩)
  have HR2 : Hid (∀ u, Below W.heap.size W u → Calls Try.prog 13 #[.agg #[.slice A1 N c1, .int .i64 F, .slice A2 M c2]] u fun e w' => e = .returned (.bool b) ∧ Below u.heap.size u w') := Lib.hid (fun u k => by rw [GN.out, GM.out, GF.out]; exact (rRight_any hE hM hrow (Lib.hid (HA.out.below k))).mono fun e w' ⟨x, h, hx, k⟩ => ⟨by rw [h, Bool.eq_iff_iff.2 (hx.trans hb1.symm)], k⟩)
  have HI : Hid (∀ (u : World) (X Y : Option Addr) (m x y : Nat) (f : Nat → Int), m ≤ 9223372036854775807 → row u X m f → row u Y m f → Calls Try.prog 15 #[.slice X m x, .slice Y m y] u fun e w' => e = .returned (.bool true) ∧ Below u.heap.size u w') := Lib.hid (fun u X Y m x y f h1 h2 h3 => Ints_same h1 (Lib.hid h2) (Lib.hid h3))
  clear hxc hc a1 a2 a3 hE hM hrow hD hs HK hb1 HA HD GN GM GF Gn hED
  rcases hcv with ⟨h0, rfl⟩ | ⟨h0, rfl⟩
  · have h0' : ¬ (0 : Int) < (s.size : Int) := by omega
    have h0'' : (0 < s.size) = False := eq_false (by omega)
    clear h0 h3 h4
    go_upto_region 7 with fail
    obtain ⟨u0, hu0⟩ : ∃ u0, u0 = wk.drew := ⟨_, rfl⟩
    have hu0' : wk.drew = u0 := hu0.symm
    have HBA : Hid (Blk u0 W.heap.size 28 #[.slice A1 N c1, .int .i64 F, .slice A2 M c2]) := Lib.hid (by rw [hu0]; exact HBX.out.below (below_drew (Below.refl _ _)))
    have KW : Hid (Below W.heap.size W u0) := Lib.hid (by rw [hu0]; exact below_drew KW.out)
    have KR := Lib.hid (Below.refl u0.heap.size u0)
    have y0 := HBA.out.cell 0
    have y1 := HBA.out.cell 1
    have y2 := HBA.out.cell 2
    clear hu0
    go_region_held3 (fun w' => w'.cell? ⟨W.heap.size, 0, none⟩ = some (.slice A1 N c1) ∧ w'.cell? ⟨W.heap.size, 1, none⟩ = some (.int .i64 F) ∧ w'.cell? ⟨W.heap.size, 2, none⟩ = some (.slice A2 M c2))
      (first | exact ⟨q0, q1, q2⟩ | exact ⟨y0, y1, y2⟩ | assumption)
      (first | (go_at_call 14; (with_reducible refine (HR1.out _ KW.out).mono ?_); rintro e u ⟨rfl, k⟩; have KR := Lib.hid (KR.out.trans (k.mono KR.out.size)); have KW := Lib.hid (KW.out.trans (k.mono KW.out.size)); have z : u.cell? ⟨W.heap.size, 0, none⟩ = some (.slice A1 N c1) ∧ u.cell? ⟨W.heap.size, 1, none⟩ = some (.int .i64 F) ∧ u.cell? ⟨W.heap.size, 2, none⟩ = some (.slice A2 M c2) := ⟨(HBA.out.below KR.out).cell 0, (HBA.out.below KR.out).cell 1, (HBA.out.below KR.out).cell 2⟩; clear k) | (go_at_call 13; (with_reducible refine (HR2.out _ KW.out).mono ?_); rintro e u ⟨rfl, k⟩; have KR := Lib.hid (KR.out.trans (k.mono KR.out.size)); have KW := Lib.hid (KW.out.trans (k.mono KW.out.size)); have z : u.cell? ⟨W.heap.size, 0, none⟩ = some (.slice A1 N c1) ∧ u.cell? ⟨W.heap.size, 1, none⟩ = some (.int .i64 F) ∧ u.cell? ⟨W.heap.size, 2, none⟩ = some (.slice A2 M c2) := ⟨(HBA.out.below KR.out).cell 0, (HBA.out.below KR.out).cell 1, (HBA.out.below KR.out).cell 2⟩; clear k) | (go_at_call 20; (with_reducible refine (HC1.out _ KW.out).mono ?_); rintro e u ⟨X1, n1, x1, C1, rfl, i1, hn1, r1, s1, k⟩; have I1 := Lib.hid i1; have R1 := Lib.hid r1; have L1 := Lib.hid s1; have E1 := Lib.hid hn1; clear i1 r1 s1 hn1; have KR := Lib.hid (KR.out.trans (k.mono KR.out.size)); have KW := Lib.hid (KW.out.trans (k.mono KW.out.size)); have z : u.cell? ⟨W.heap.size, 0, none⟩ = some (.slice A1 N c1) ∧ u.cell? ⟨W.heap.size, 1, none⟩ = some (.int .i64 F) ∧ u.cell? ⟨W.heap.size, 2, none⟩ = some (.slice A2 M c2) := ⟨(HBA.out.below KR.out).cell 0, (HBA.out.below KR.out).cell 1, (HBA.out.below KR.out).cell 2⟩; clear k) | (go_at_call 21; (with_reducible refine (HC2.out _ KW.out).mono ?_); rintro e u ⟨X2, n2, x2, C2, rfl, i2, hn2, r2, s2, k⟩; obtain rfl := I1.out.ext i2; have hh := hn2.trans E1.out.symm; clear hn2; subst hh; have R1 := Lib.hid (R1.out.below k); have R2 := Lib.hid r2; clear i2 r2 s2; have KR := Lib.hid (KR.out.trans (k.mono KR.out.size)); have KW := Lib.hid (KW.out.trans (k.mono KW.out.size)); have z : u.cell? ⟨W.heap.size, 0, none⟩ = some (.slice A1 N c1) ∧ u.cell? ⟨W.heap.size, 1, none⟩ = some (.int .i64 F) ∧ u.cell? ⟨W.heap.size, 2, none⟩ = some (.slice A2 M c2) := ⟨(HBA.out.below KR.out).cell 0, (HBA.out.below KR.out).cell 1, (HBA.out.below KR.out).cell 2⟩; clear k) | (go_at_call 22; (with_reducible refine (HS1.out _ KW.out).mono ?_); rintro e u ⟨X1, n1, x1, C1, rfl, i1, hn1, r1, s1, k⟩; have I1 := Lib.hid i1; have R1 := Lib.hid r1; have L1 := Lib.hid s1; have E1 := Lib.hid hn1; clear i1 r1 s1 hn1; have KR := Lib.hid (KR.out.trans (k.mono KR.out.size)); have KW := Lib.hid (KW.out.trans (k.mono KW.out.size)); have z : u.cell? ⟨W.heap.size, 0, none⟩ = some (.slice A1 N c1) ∧ u.cell? ⟨W.heap.size, 1, none⟩ = some (.int .i64 F) ∧ u.cell? ⟨W.heap.size, 2, none⟩ = some (.slice A2 M c2) := ⟨(HBA.out.below KR.out).cell 0, (HBA.out.below KR.out).cell 1, (HBA.out.below KR.out).cell 2⟩; clear k) | (go_at_call 23; (with_reducible refine (HS2.out _ KW.out).mono ?_); rintro e u ⟨X2, n2, x2, C2, rfl, i2, hn2, r2, s2, k⟩; obtain rfl := I1.out.ext i2; have hh := hn2.trans E1.out.symm; clear hn2; subst hh; have R1 := Lib.hid (R1.out.below k); have R2 := Lib.hid r2; clear i2 r2 s2; have KR := Lib.hid (KR.out.trans (k.mono KR.out.size)); have KW := Lib.hid (KW.out.trans (k.mono KW.out.size)); have z : u.cell? ⟨W.heap.size, 0, none⟩ = some (.slice A1 N c1) ∧ u.cell? ⟨W.heap.size, 1, none⟩ = some (.int .i64 F) ∧ u.cell? ⟨W.heap.size, 2, none⟩ = some (.slice A2 M c2) := ⟨(HBA.out.below KR.out).cell 0, (HBA.out.below KR.out).cell 1, (HBA.out.below KR.out).cell 2⟩; clear k) | (go_at_call 16; (with_reducible refine (HU1.out _ KW.out).mono ?_); rintro e u ⟨X1, n1, x1, C1, rfl, i1, hn1, r1, s1, k⟩; have I1 := Lib.hid i1; have R1 := Lib.hid r1; have L1 := Lib.hid s1; have E1 := Lib.hid hn1; clear i1 r1 s1 hn1; have KR := Lib.hid (KR.out.trans (k.mono KR.out.size)); have KW := Lib.hid (KW.out.trans (k.mono KW.out.size)); have z : u.cell? ⟨W.heap.size, 0, none⟩ = some (.slice A1 N c1) ∧ u.cell? ⟨W.heap.size, 1, none⟩ = some (.int .i64 F) ∧ u.cell? ⟨W.heap.size, 2, none⟩ = some (.slice A2 M c2) := ⟨(HBA.out.below KR.out).cell 0, (HBA.out.below KR.out).cell 1, (HBA.out.below KR.out).cell 2⟩; clear k) | (go_at_call 18; (with_reducible refine (HU2.out _ KW.out).mono ?_); rintro e u ⟨X2, n2, x2, C2, rfl, i2, hn2, r2, s2, k⟩; obtain rfl := I1.out.ext i2; have hh := hn2.trans E1.out.symm; clear hn2; subst hh; have R1 := Lib.hid (R1.out.below k); have R2 := Lib.hid r2; clear i2 r2 s2; have KR := Lib.hid (KR.out.trans (k.mono KR.out.size)); have KW := Lib.hid (KW.out.trans (k.mono KW.out.size)); have z : u.cell? ⟨W.heap.size, 0, none⟩ = some (.slice A1 N c1) ∧ u.cell? ⟨W.heap.size, 1, none⟩ = some (.int .i64 F) ∧ u.cell? ⟨W.heap.size, 2, none⟩ = some (.slice A2 M c2) := ⟨(HBA.out.below KR.out).cell 0, (HBA.out.below KR.out).cell 1, (HBA.out.below KR.out).cell 2⟩; clear k) | (go_at_call 15; (with_reducible refine (HI.out _ _ _ _ _ _ _ L1.out R1.out R2.out).mono ?_); rintro e u ⟨rfl, k⟩; clear I1 E1 R1 R2 L1; have KR := Lib.hid (KR.out.trans (k.mono KR.out.size)); have KW := Lib.hid (KW.out.trans (k.mono KW.out.size)); have z : u.cell? ⟨W.heap.size, 0, none⟩ = some (.slice A1 N c1) ∧ u.cell? ⟨W.heap.size, 1, none⟩ = some (.int .i64 F) ∧ u.cell? ⟨W.heap.size, 2, none⟩ = some (.slice A2 M c2) := ⟨(HBA.out.below KR.out).cell 0, (HBA.out.below KR.out).cell 1, (HBA.out.below KR.out).cell 2⟩; clear k) | (go_at_call 8; refine (HKN.out _).mono ?_; rintro e u ⟨rfl, k⟩; have KR := Lib.hid (KR.out.trans (k.mono KR.out.size)); have KW := Lib.hid (KW.out.trans (k.mono KW.out.size)); have z : u.cell? ⟨W.heap.size, 0, none⟩ = some (.slice A1 N c1) ∧ u.cell? ⟨W.heap.size, 1, none⟩ = some (.int .i64 F) ∧ u.cell? ⟨W.heap.size, 2, none⟩ = some (.slice A2 M c2) := ⟨(HBA.out.below KR.out).cell 0, (HBA.out.below KR.out).cell 1, (HBA.out.below KR.out).cell 2⟩; clear k))
    all_goals go_wp2
    all_goals go_ret
    all_goals exact ⟨rfl, KW.out⟩
  · have h0' : (0 : Int) < (s.size : Int) := by omega
    clear h3 h4
    go_upto_region 7 with fail
    obtain ⟨u0, hu0⟩ : ∃ u0, u0 = wk.drew := ⟨_, rfl⟩
    have hu0' : wk.drew = u0 := hu0.symm
    have HBA : Hid (Blk u0 W.heap.size 28 #[.slice A1 N c1, .int .i64 F, .slice A2 M c2]) := Lib.hid (by rw [hu0]; exact HBX.out.below (below_drew (Below.refl _ _)))
    have KW : Hid (Below W.heap.size W u0) := Lib.hid (by rw [hu0]; exact below_drew KW.out)
    have KR := Lib.hid (Below.refl u0.heap.size u0)
    have y0 := HBA.out.cell 0
    have y1 := HBA.out.cell 1
    have y2 := HBA.out.cell 2
    clear hu0
    go_region_held3 (fun w' => w'.cell? ⟨W.heap.size, 0, none⟩ = some (.slice A1 N c1) ∧ w'.cell? ⟨W.heap.size, 1, none⟩ = some (.int .i64 F) ∧ w'.cell? ⟨W.heap.size, 2, none⟩ = some (.slice A2 M c2))
      (first | exact ⟨q0, q1, q2⟩ | exact ⟨y0, y1, y2⟩ | assumption)
      (first | (go_at_call 14; (with_reducible refine (HR1.out _ KW.out).mono ?_); rintro e u ⟨rfl, k⟩; have KR := Lib.hid (KR.out.trans (k.mono KR.out.size)); have KW := Lib.hid (KW.out.trans (k.mono KW.out.size)); have z : u.cell? ⟨W.heap.size, 0, none⟩ = some (.slice A1 N c1) ∧ u.cell? ⟨W.heap.size, 1, none⟩ = some (.int .i64 F) ∧ u.cell? ⟨W.heap.size, 2, none⟩ = some (.slice A2 M c2) := ⟨(HBA.out.below KR.out).cell 0, (HBA.out.below KR.out).cell 1, (HBA.out.below KR.out).cell 2⟩; clear k) | (go_at_call 13; (with_reducible refine (HR2.out _ KW.out).mono ?_); rintro e u ⟨rfl, k⟩; have KR := Lib.hid (KR.out.trans (k.mono KR.out.size)); have KW := Lib.hid (KW.out.trans (k.mono KW.out.size)); have z : u.cell? ⟨W.heap.size, 0, none⟩ = some (.slice A1 N c1) ∧ u.cell? ⟨W.heap.size, 1, none⟩ = some (.int .i64 F) ∧ u.cell? ⟨W.heap.size, 2, none⟩ = some (.slice A2 M c2) := ⟨(HBA.out.below KR.out).cell 0, (HBA.out.below KR.out).cell 1, (HBA.out.below KR.out).cell 2⟩; clear k) | (go_at_call 20; (with_reducible refine (HC1.out _ KW.out).mono ?_); rintro e u ⟨X1, n1, x1, C1, rfl, i1, hn1, r1, s1, k⟩; have I1 := Lib.hid i1; have R1 := Lib.hid r1; have L1 := Lib.hid s1; have E1 := Lib.hid hn1; clear i1 r1 s1 hn1; have KR := Lib.hid (KR.out.trans (k.mono KR.out.size)); have KW := Lib.hid (KW.out.trans (k.mono KW.out.size)); have z : u.cell? ⟨W.heap.size, 0, none⟩ = some (.slice A1 N c1) ∧ u.cell? ⟨W.heap.size, 1, none⟩ = some (.int .i64 F) ∧ u.cell? ⟨W.heap.size, 2, none⟩ = some (.slice A2 M c2) := ⟨(HBA.out.below KR.out).cell 0, (HBA.out.below KR.out).cell 1, (HBA.out.below KR.out).cell 2⟩; clear k) | (go_at_call 21; (with_reducible refine (HC2.out _ KW.out).mono ?_); rintro e u ⟨X2, n2, x2, C2, rfl, i2, hn2, r2, s2, k⟩; obtain rfl := I1.out.ext i2; have hh := hn2.trans E1.out.symm; clear hn2; subst hh; have R1 := Lib.hid (R1.out.below k); have R2 := Lib.hid r2; clear i2 r2 s2; have KR := Lib.hid (KR.out.trans (k.mono KR.out.size)); have KW := Lib.hid (KW.out.trans (k.mono KW.out.size)); have z : u.cell? ⟨W.heap.size, 0, none⟩ = some (.slice A1 N c1) ∧ u.cell? ⟨W.heap.size, 1, none⟩ = some (.int .i64 F) ∧ u.cell? ⟨W.heap.size, 2, none⟩ = some (.slice A2 M c2) := ⟨(HBA.out.below KR.out).cell 0, (HBA.out.below KR.out).cell 1, (HBA.out.below KR.out).cell 2⟩; clear k) | (go_at_call 22; (with_reducible refine (HS1.out _ KW.out).mono ?_); rintro e u ⟨X1, n1, x1, C1, rfl, i1, hn1, r1, s1, k⟩; have I1 := Lib.hid i1; have R1 := Lib.hid r1; have L1 := Lib.hid s1; have E1 := Lib.hid hn1; clear i1 r1 s1 hn1; have KR := Lib.hid (KR.out.trans (k.mono KR.out.size)); have KW := Lib.hid (KW.out.trans (k.mono KW.out.size)); have z : u.cell? ⟨W.heap.size, 0, none⟩ = some (.slice A1 N c1) ∧ u.cell? ⟨W.heap.size, 1, none⟩ = some (.int .i64 F) ∧ u.cell? ⟨W.heap.size, 2, none⟩ = some (.slice A2 M c2) := ⟨(HBA.out.below KR.out).cell 0, (HBA.out.below KR.out).cell 1, (HBA.out.below KR.out).cell 2⟩; clear k) | (go_at_call 23; (with_reducible refine (HS2.out _ KW.out).mono ?_); rintro e u ⟨X2, n2, x2, C2, rfl, i2, hn2, r2, s2, k⟩; obtain rfl := I1.out.ext i2; have hh := hn2.trans E1.out.symm; clear hn2; subst hh; have R1 := Lib.hid (R1.out.below k); have R2 := Lib.hid r2; clear i2 r2 s2; have KR := Lib.hid (KR.out.trans (k.mono KR.out.size)); have KW := Lib.hid (KW.out.trans (k.mono KW.out.size)); have z : u.cell? ⟨W.heap.size, 0, none⟩ = some (.slice A1 N c1) ∧ u.cell? ⟨W.heap.size, 1, none⟩ = some (.int .i64 F) ∧ u.cell? ⟨W.heap.size, 2, none⟩ = some (.slice A2 M c2) := ⟨(HBA.out.below KR.out).cell 0, (HBA.out.below KR.out).cell 1, (HBA.out.below KR.out).cell 2⟩; clear k) | (go_at_call 16; (with_reducible refine (HU1.out _ KW.out).mono ?_); rintro e u ⟨X1, n1, x1, C1, rfl, i1, hn1, r1, s1, k⟩; have I1 := Lib.hid i1; have R1 := Lib.hid r1; have L1 := Lib.hid s1; have E1 := Lib.hid hn1; clear i1 r1 s1 hn1; have KR := Lib.hid (KR.out.trans (k.mono KR.out.size)); have KW := Lib.hid (KW.out.trans (k.mono KW.out.size)); have z : u.cell? ⟨W.heap.size, 0, none⟩ = some (.slice A1 N c1) ∧ u.cell? ⟨W.heap.size, 1, none⟩ = some (.int .i64 F) ∧ u.cell? ⟨W.heap.size, 2, none⟩ = some (.slice A2 M c2) := ⟨(HBA.out.below KR.out).cell 0, (HBA.out.below KR.out).cell 1, (HBA.out.below KR.out).cell 2⟩; clear k) | (go_at_call 18; (with_reducible refine (HU2.out _ KW.out).mono ?_); rintro e u ⟨X2, n2, x2, C2, rfl, i2, hn2, r2, s2, k⟩; obtain rfl := I1.out.ext i2; have hh := hn2.trans E1.out.symm; clear hn2; subst hh; have R1 := Lib.hid (R1.out.below k); have R2 := Lib.hid r2; clear i2 r2 s2; have KR := Lib.hid (KR.out.trans (k.mono KR.out.size)); have KW := Lib.hid (KW.out.trans (k.mono KW.out.size)); have z : u.cell? ⟨W.heap.size, 0, none⟩ = some (.slice A1 N c1) ∧ u.cell? ⟨W.heap.size, 1, none⟩ = some (.int .i64 F) ∧ u.cell? ⟨W.heap.size, 2, none⟩ = some (.slice A2 M c2) := ⟨(HBA.out.below KR.out).cell 0, (HBA.out.below KR.out).cell 1, (HBA.out.below KR.out).cell 2⟩; clear k) | (go_at_call 15; (with_reducible refine (HI.out _ _ _ _ _ _ _ L1.out R1.out R2.out).mono ?_); rintro e u ⟨rfl, k⟩; clear I1 E1 R1 R2 L1; have KR := Lib.hid (KR.out.trans (k.mono KR.out.size)); have KW := Lib.hid (KW.out.trans (k.mono KW.out.size)); have z : u.cell? ⟨W.heap.size, 0, none⟩ = some (.slice A1 N c1) ∧ u.cell? ⟨W.heap.size, 1, none⟩ = some (.int .i64 F) ∧ u.cell? ⟨W.heap.size, 2, none⟩ = some (.slice A2 M c2) := ⟨(HBA.out.below KR.out).cell 0, (HBA.out.below KR.out).cell 1, (HBA.out.below KR.out).cell 2⟩; clear k) | (go_at_call 8; refine (HKN.out _).mono ?_; rintro e u ⟨rfl, k⟩; have KR := Lib.hid (KR.out.trans (k.mono KR.out.size)); have KW := Lib.hid (KW.out.trans (k.mono KW.out.size)); have z : u.cell? ⟨W.heap.size, 0, none⟩ = some (.slice A1 N c1) ∧ u.cell? ⟨W.heap.size, 1, none⟩ = some (.int .i64 F) ∧ u.cell? ⟨W.heap.size, 2, none⟩ = some (.slice A2 M c2) := ⟨(HBA.out.below KR.out).cell 0, (HBA.out.below KR.out).cell 1, (HBA.out.below KR.out).cell 2⟩; clear k))
    all_goals go_wp2
    all_goals go_ret
    all_goals exact ⟨rfl, KW.out⟩
end Go.Proofs.Ythjelilmlbbalaa.Oxruns
