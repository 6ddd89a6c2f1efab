/-
  collimatorlaw17.NfaMatches: the automaton that trees make tells of a text just the trees that match it.
  Conditions: none. The walk of the call (made by tools/gennfamatches17.py).
-/
import Derived.Test.YthjelilmlbbalaaPba
import Derived.Test.YthjelilmlbbalaaPaw
import Derived.StillTailTactics
import Derived.BigQuiet
import Derived.BigRegion
namespace Go.Proofs.Ythjelilmlbbalaa.Oxmatches
open Go.RowKit Go.PlainAid Go.Proofs.Ythjelilmlbbalaa.Vm Go.Proofs.Ythjelilmlbbalaa.Vo Go.Proofs.Ythjelilmlbbalaa.Bw Go.Proofs.Ythjelilmlbbalaa.Na Go.Proofs.Ythjelilmlbbalaa.Ko Go.Proofs.Ythjelilmlbbalaa.Tm Go.Proofs.Ythjelilmlbbalaa.Rs Go.Proofs.Ythjelilmlbbalaa.Rm Go.Proofs.Ythjelilmlbbalaa.Rv Go.Proofs.Ythjelilmlbbalaa.Ra Go.Proofs.Ythjelilmlbbalaa.Rn Go.Proofs.Ythjelilmlbbalaa.An Go.Proofs.Ythjelilmlbbalaa.Aa Go.Proofs.Ythjelilmlbbalaa.Ab Go.Proofs.Ythjelilmlbbalaa.Ac Go.Proofs.Ythjelilmlbbalaa.Ad Go.Proofs.Ythjelilmlbbalaa.Ae Go.Proofs.Ythjelilmlbbalaa.As Go.Proofs.Ythjelilmlbbalaa.Aw Go.Proofs.Ythjelilmlbbalaa.Ax Go.Proofs.Ythjelilmlbbalaa.Ap Go.Proofs.Ythjelilmlbbalaa.Ao Go.Proofs.Ythjelilmlbbalaa.Ak Go.Proofs.Ythjelilmlbbalaa.Al Go.Proofs.Ythjelilmlbbalaa.Ay Go.Proofs.Ythjelilmlbbalaa.Dm Go.Proofs.Ythjelilmlbbalaa.Dn Go.Proofs.Ythjelilmlbbalaa.Dw Go.Proofs.Ythjelilmlbbalaa.Dx Go.Proofs.Ythjelilmlbbalaa.Oa Go.Proofs.Ythjelilmlbbalaa.Oe Go.Proofs.Ythjelilmlbbalaa.Of Go.Proofs.Ythjelilmlbbalaa.Ol Go.Proofs.Ythjelilmlbbalaa.On Go.Proofs.Ythjelilmlbbalaa.Op Go.Proofs.Ythjelilmlbbalaa.Oq

/-- What a list that is all those answers. -/
def ansV (P : Nat → Prop) (w : World) (e : Ending) (w' : World) : Prop := ∃ A' n c C, e = .returned (.slice A' n c) ∧ isL C P ∧ n = C.length ∧ row w' A' n (at0 C) ∧ n ≤ 9223372036854775807 ∧ Below w.heap.size w w'
theorem ansV_of {A : Au} {P Q : Nat → Prop} (hQ : ∀ C, isU A Q C → isL C P) {w w' : World} {e : Ending} (h : ∃ v C, e = .returned v ∧ ints w' w.heap.size 3 v C ∧ (okA A → isL C Q) ∧ (¬ okA A → C = []) ∧ Below w.heap.size w w') : ansV P w e w' := by
  obtain ⟨A', n, c, C, h1, h2, h3, h4, h5, h6⟩ := ansU_of h
  exact ⟨A', n, c, C, h1, hQ C h2, h3, h4, h5, h6⟩
set_option maxHeartbeats 4000000 in
set_option maxRecDepth 100000 in
theorem walk (A : Option Addr) (c : Nat) (L : List (List Nd)) (s : ByteArray) (W : World) (_hc : L.length ≤ c) (w0 : ndr W A L) (_w1 : s.size ≤ maxLen) :
    Calls Try.prog 4 #[.slice A L.length c, .string s] W fun e w' => e = .returned (.bool true) ∧ Below W.heap.size W w' := by
  have HKN := Lib.hid (fun u => known_any u)
  have HFW : Hid (Calls Try.prog 7 #[.slice A L.length c, .int .i64 300] W fun e w' => ansF L 300 W e w') := Lib.hid (rFew_any (cap := c) (most := 300) (Lib.hid w0))
  have HN := Lib.hid w0
  obtain ⟨n, hn⟩ : ∃ n, n = L.length := ⟨_, rfl⟩
  have Gn := Lib.hid hn
  rw [← hn] at HFW ⊢
  clear hn w0
  go_enter Try.func4, Try.ntmps4
  by_cases h4 : 20 < s.size
  · have h4' : (20 : Int) < (s.size : Int) := by omega
    go_upto_region 2 with (go_at_call 7; refine HFW.out.mono ?_; rintro e u ⟨b, rfl, hb, k⟩; have KW := Lib.hid k; have HB := Lib.hid hb; clear k hb; cases b)
    all_goals go_wp2_with (go_at_call 8; refine (HKN.out _).mono ?_; rintro e u ⟨rfl, k⟩; have KW := Lib.hid (KW.out.trans (k.mono KW.out.size)); clear k)
    all_goals go_ret
    all_goals exact ⟨rfl, KW.out⟩
  have h4' : ¬ (20 : Int) < (s.size : Int) := by omega
  go_upto_region 2 with (go_at_call 7; refine HFW.out.mono ?_; rintro e u ⟨b, rfl, hb, k⟩; have KW := Lib.hid k; have HB := Lib.hid hb; clear k hb; cases b)
  · go_wp2_with (go_at_call 8; refine (HKN.out _).mono ?_; rintro e u ⟨rfl, k⟩; have KW := Lib.hid (KW.out.trans (k.mono KW.out.size)); clear k)
    go_ret
    exact ⟨rfl, KW.out⟩
  obtain ⟨b1, b2, _⟩ := HB.out trivial
  have hL : L.length ≤ 1000000 := by omega
  have hl : ∀ l ∈ L, l.length ≤ 1000000 := fun l h => by have := b2 l h; omega
  have hs : s.size ≤ 1000000 := by omega
  by_cases hX : (makesQ L).2 = 0
  · have hmk := (mkOk_of HN.out hX).1
    have henc := hmk.enc
    have hlen := au_row hmk
    have hau := auQ_len hmk.ok
    have hok := hmk.ok
    have h3 := hmk.s
    have h2 := hmk.sum
    have HQ : Hid (∀ (C : List Int), isU (auQ (trs L)) (rul (auQ (trs L)) (runs (auQ (trs L)).E (auQ (trs L)).first.toNat (nb s.data.toList))) C → isL C (isM (trs L) (nb s.data.toList))) := Lib.hid (fun C h => run_isM hmk _ h)
    have hMK : ∀ u, Below W.heap.size W u → Calls Try.prog 9 #[.slice A n c] u fun e w' => ∃ A1 A2 c1 c2, e = .returned (.tuple #[nv A1 A2 c1 c2 (auQ (trs L)), .int .i64 0]) ∧ nfa w' A1 A2 (auQ (trs L)) ∧ Below u.heap.size u w' := fun u k => by
      rw [Gn.out]
      refine (Make_any hL hl (Lib.hid (HN.out.below k))).mono fun e w' h => ?_
      obtain ⟨A1, A2, c1, c2, he, hf⟩ := h.2.2 hX
      exact ⟨A1, A2, c1, c2, he, hf, h.1⟩
    have HMT : Hid (∀ u, Below W.heap.size W u → Calls Try.prog 17 #[.slice A n c, .string s] u fun e w' => ansV (isM (trs L) (nb s.data.toList)) u e w') := Lib.hid (fun u k => by
      have h := Matching_any (A := A) (cap := c) (ts := trs L) (by rw [trs_len]; omega) (fun t ht => ⟨hok t ht, henc.2 t ht⟩) (s := s) (by omega) (Lib.hid (show ndr u A ((trs L).map enc) by rw [henc.1]; exact HN.out.below k))
      rw [trs_len, ← Gn.out] at h
      refine h.mono ?_
      rintro e w' ⟨v, rfl, hi, b⟩
      have hsm := ints_small hi
      obtain ⟨A', c', rfl⟩ := hi.form
      have hm := matQ_isM hok (nb s.data.toList)
      rw [nb_len, trs_len, ← Gn.out] at hm
      exact ⟨A', _, c', _, rfl, hm, rfl, hi.row, hsm, b⟩)
    obtain ⟨P, hP⟩ : ∃ P, P = isM (trs L) (nb s.data.toList) := ⟨_, rfl⟩
    rw [← hP] at HMT HQ
    obtain ⟨AU, hAU⟩ : ∃ AU, AU = auQ (trs L) := ⟨_, rfl⟩
    rw [← hAU] at hMK HQ hlen hau
    have hE : AU.E.length ≤ 1000000 := by omega
    have hM : AU.R.length ≤ 1000000 := by omega
    obtain ⟨N, hN⟩ : ∃ N, N = AU.E.length := ⟨_, rfl⟩
    obtain ⟨M, hM'⟩ : ∃ M, M = AU.R.length := ⟨_, rfl⟩
    obtain ⟨F, hF⟩ : ∃ F, F = AU.first := ⟨_, rfl⟩
    have hRU : ∀ (A1 A2 : Option Addr) (c1 c2 : Nat) (u0 : World), nfa u0 A1 A2 AU → ∀ u, Below u0.heap.size u0 u → Calls Try.prog 16 #[.agg #[.slice A1 N c1, .int .i64 F, .slice A2 M c2], .string s] u fun e w' => ansV P u e w' := fun A1 A2 c1 c2 u0 f u k => by
      rw [hN, hM', hF]
      exact (Run_any hE hM hlen hs (Lib.hid (f.below k))).mono fun e w' h => ansV_of HQ.out h
    have hRR : ∀ (A1 A2 : Option Addr) (c1 c2 : Nat) (u0 : World), nfa u0 A1 A2 AU → ∀ u, Below u0.heap.size u0 u → Calls Try.prog 18 #[.agg #[.slice A1 N c1, .int .i64 F, .slice A2 M c2], .string s] u fun e w' => ansV P u e w' := fun A1 A2 c1 c2 u0 f u k => by
      rw [hN, hM', hF]
      exact (rRun_any hE hM hlen hs (Lib.hid (f.below k))).mono fun e w' h => ansV_of HQ.out h
    unfold nv at hMK
    rw [← hN, ← hM', ← hF] at hMK
    have HMK := Lib.hid hMK
    have HRU := Lib.hid hRU
    have HRR := Lib.hid hRR
    have HI : Hid (∀ (u : World) (X Y : Option Addr) (m x y : Nat) (f : Nat → Int), m ≤ 9223372036854775807 → row u X m f → row u Y m f → Calls Try.prog 15 #[.slice X m x, .slice Y m y] u fun e w' => e = .returned (.bool true) ∧ Below u.heap.size u w') := Lib.hid (fun u X Y m x y f h1 h2 h3 => Ints_same h1 (Lib.hid h2) (Lib.hid h3))
    clear hmk henc hlen hau hok h3 h2 hMK hRU hRR hE hM hN hM' hF hAU hP hX b1 b2 hL hl hs h4 HB HN Gn HQ
    go_upto_region 4 with (go_at_call 9; (with_reducible refine (HMK.out _ KW.out).mono ?_); rintro e w4 ⟨A1, A2, c1, c2, rfl, f4, k4⟩; have F4 := Lib.hid f4; have KW := Lib.hid (KW.out.trans (k4.mono KW.out.size)); clear f4 k4)
    obtain ⟨w5, hw5⟩ : ∃ w5, w5 = w4.alloc (.cells #[.slice A1 N c1, .int .i64 F, .slice A2 M c2] 28) := ⟨_, rfl⟩
    obtain ⟨B, hB⟩ : ∃ B, B = w4.heap.size := ⟨_, rfl⟩
    have HBX : Hid (Blk w5 B 28 #[.slice A1 N c1, .int .i64 F, .slice A2 M c2]) := Lib.hid (by rw [hw5, hB]; exact Blk.fresh _ _ _)
    have F5 : Hid (nfa w5 A1 A2 AU) := Lib.hid (by rw [hw5]; exact F4.out.below (below_alloc _ _))
    have KW : Hid (Below W.heap.size W w5) := Lib.hid (by rw [hw5]; exact KW.out.trans ((below_alloc _ _).mono KW.out.size))
    rw [← hw5, ← hB]
    clear hw5 hB F4
    go_upto_region 6 with fail
    have q0 := HBX.out.cell 0
    have q1 := HBX.out.cell 1
    have q2 := HBX.out.cell 2
    have HU1 := Lib.hid (HRU.out A1 A2 c1 c2 w5 F5.out)
    have HU2 := Lib.hid (HRR.out A1 A2 c1 c2 w5 F5.out)
    have KR := Lib.hid (Below.refl w5.heap.size w5)
    clear F5 HRU HRR HMK
    go_wp2_with (first | (go_at_call 16; (with_reducible refine (HU1.out _ KR.out).mono ?_); rintro e u ⟨X1, n1, x1, C1, rfl, i1, hn1, r1, s1, k⟩; have I1 := Lib.hid i1; have R1 := Lib.hid r1; have L1 := Lib.hid s1; have E1 := Lib.hid hn1; clear i1 r1 s1 hn1; have KR := Lib.hid (KR.out.trans (k.mono KR.out.size)); have KW := Lib.hid (KW.out.trans (k.mono KW.out.size)); clear q0 q1 q2; have q0 := (HBX.out.below KR.out).cell 0; have q1 := (HBX.out.below KR.out).cell 1; have q2 := (HBX.out.below KR.out).cell 2; clear k) | (go_at_call 18; (with_reducible refine (HU2.out _ KR.out).mono ?_); rintro e u ⟨X1, n1, x1, C1, rfl, i1, hn1, r1, s1, k⟩; have I1 := Lib.hid i1; have R1 := Lib.hid r1; have L1 := Lib.hid s1; have E1 := Lib.hid hn1; clear i1 r1 s1 hn1; have KR := Lib.hid (KR.out.trans (k.mono KR.out.size)); have KW := Lib.hid (KW.out.trans (k.mono KW.out.size)); clear q0 q1 q2; have q0 := (HBX.out.below KR.out).cell 0; have q1 := (HBX.out.below KR.out).cell 1; have q2 := (HBX.out.below KR.out).cell 2; clear k) | (go_at_call 17; (with_reducible refine (HMT.out _ KW.out).mono ?_); rintro e u ⟨X2, n2, x2, C2, rfl, i2, hn2, r2, s2, k⟩; obtain rfl := I1.out.ext i2 (fun _ => Iff.rfl); have hh := hn2.trans E1.out.symm; clear hn2; subst hh; have R1 := Lib.hid (R1.out.below k); have R2 := Lib.hid r2; clear i2 r2 s2; have KR := Lib.hid (KR.out.trans (k.mono KR.out.size)); have KW := Lib.hid (KW.out.trans (k.mono KW.out.size)); clear q0 q1 q2; have q0 := (HBX.out.below KR.out).cell 0; have q1 := (HBX.out.below KR.out).cell 1; have q2 := (HBX.out.below KR.out).cell 2; clear k) | (go_at_call 15; (with_reducible refine (HI.out _ _ _ _ _ _ _ L1.out R1.out R2.out).mono ?_); rintro e u ⟨rfl, k⟩; clear I1 E1 R1 R2 L1; have KR := Lib.hid (KR.out.trans (k.mono KR.out.size)); have KW := Lib.hid (KW.out.trans (k.mono KW.out.size)); clear q0 q1 q2; have q0 := (HBX.out.below KR.out).cell 0; have q1 := (HBX.out.below KR.out).cell 1; have q2 := (HBX.out.below KR.out).cell 2; clear k) | (go_at_call 8; refine (HKN.out _).mono ?_; rintro e u ⟨rfl, k⟩; have KR := Lib.hid (KR.out.trans (k.mono KR.out.size)); have KW := Lib.hid (KW.out.trans (k.mono KW.out.size)); clear q0 q1 q2; have q0 := (HBX.out.below KR.out).cell 0; have q1 := (HBX.out.below KR.out).cell 1; have q2 := (HBX.out.below KR.out).cell 2; clear k))
    go_ret
    exact ⟨rfl, KW.out⟩
  · have HMK : Hid (∀ u, Below W.heap.size W u → Calls Try.prog 9 #[.slice A n c] u fun e w' => e = .returned (.tuple #[.agg #[.slice none 0 0, .int .i64 0, .slice none 0 0], .int .i64 (makesQ L).2]) ∧ Below u.heap.size u w') := Lib.hid (fun u k => by rw [Gn.out]; exact (Make_any hL hl (Lib.hid (HN.out.below k))).mono fun e w' h => ⟨h.2.1 hX, h.1⟩)
    obtain ⟨X, hXX⟩ : ∃ X, X = (makesQ L).2 := ⟨_, rfl⟩
    rw [← hXX] at HMK hX
    clear hXX b1 b2 hL hl hs h4 HB
    go_wp2_with (first | (go_at_call 9; (with_reducible refine (HMK.out _ KW.out).mono ?_); rintro e u ⟨rfl, k⟩; have KW := Lib.hid (KW.out.trans (k.mono KW.out.size)); clear k) | (go_at_call 8; refine (HKN.out _).mono ?_; rintro e u ⟨rfl, k⟩; have KW := Lib.hid (KW.out.trans ((grows (below_alloc _ _) k).mono KW.out.size)); clear k))
    go_ret
    exact ⟨rfl, KW.out⟩
end Go.Proofs.Ythjelilmlbbalaa.Oxmatches
