/-
  collimatorlaw05.LensOrder returns true for every list of lengths and every two symbols: a shorter code lies ahead, and of one length the smaller symbol.
  Conditions: none.
-/
import Derived.Test.YtbhheikkalkgdaaNk
import Derived.Test.YtbhheikkalkgdaaNy
import Derived.Test.YtbhheikkalkgdaaLw
import Derived.StillTailTactics
namespace Go.Proofs.Ytbhheikkalkgdaa.lensOrder
open Go.ChangeShapes Go.WideShapes Go.ChangeAt Go.RowKit
open Go.ChangeMaps (open_string shut_string)
open Go.Proofs.Ytbhheikkalkgdaa.Lw Go.Proofs.Ytbhheikkalkgdaa.Vm Go.Proofs.Ytbhheikkalkgdaa.Na Go.Proofs.Ytbhheikkalkgdaa.Nm Go.Proofs.Ytbhheikkalkgdaa.Bw Go.Proofs.Ytbhheikkalkgdaa.Ni Go.Proofs.Ytbhheikkalkgdaa.Nc Go.Proofs.Ytbhheikkalkgdaa.Nd Go.Proofs.Ytbhheikkalkgdaa.Ne Go.Proofs.Ytbhheikkalkgdaa.Nf Go.Proofs.Ytbhheikkalkgdaa.Ng Go.Proofs.Ytbhheikkalkgdaa.Nh Go.Proofs.Ytbhheikkalkgdaa.Nk Go.Proofs.Ytbhheikkalkgdaa.Ny

theorem own : ownKnob Try.prog.godebug = none := by kernel_rfl
theorem laidOut : laidOutB Try.prog = true := by kernel_rfl

theorem pos_small {l : List Nat} {i : Nat} (hi : i < l.length) (h0 : 0 < nth l i) (h : nth l i ≤ 15) (hk : ksum l 16 ≤ 32768) : pos l i < 32768 := by
  have h1 := pos_end hi h0 h
  have h2 := ksum_mono l (show nth l i + 1 ≤ 16 by omega)
  have := Nat.two_pow_pos (15 - nth l i)
  omega
theorem wrap_pos (c x P : Nat) (h : c * 2 ^ (15 - x) = P) (hP : P < 32768) : wrap64 ((c : Int) * 2 ^ min (15 - x) 64) = (P : Int) := by
  rw [show min (15 - x) 64 = 15 - x by omega]
  have e : ((c : Int) * 2 ^ (15 - x)) = ((c * 2 ^ (15 - x) : Nat) : Int) := by simp
  rw [e, h, wrap64_in (by omega) (by omega)]

set_option maxHeartbeats 1000000 in
set_option maxRecDepth 100000 in
theorem coded {A : Option Addr} {n cap : Nat} {f : Nat → Int} {w : World} (a b : Nat) (ha : a < 65536) (hb : b < 65536) (hn : 0 < n) (he : err n f = 0) (HC : Hid (row w A n f)) :
    Calls Try.prog 6 #[.slice A n cap, .int .u16 a, .int .u16 b] w fun e w' => e = .returned (.bool true) ∧ Below w.heap.size w w' := by
  obtain ⟨h1, h2, h3⟩ := err_zero he
  have HO := Lib.hid (Codes_ok (cap := cap) he HC)
  have HR := Lib.hid (L_row h2 HC.out)
  have H15 := Lib.hid (L_le h2)
  obtain ⟨l, hl⟩ : ∃ l, l = L n f := ⟨_, rfl⟩
  have hln : Hid (l.length = n) := Lib.hid (by rw [hl, L_length])
  rw [← hl] at HO HR H15 h3
  have H3 := Lib.hid h3
  obtain ⟨i, hi⟩ : ∃ i, i = a % n := ⟨_, rfl⟩
  obtain ⟨k, hk⟩ : ∃ k, k = b % n := ⟨_, rfl⟩
  have hin : i < n := by rw [hi]; exact Nat.mod_lt _ hn
  have hkn : k < n := by rw [hk]; exact Nat.mod_lt _ hn
  have ei : ((a : Int).tmod (n : Int)) = (i : Int) := by rw [hi]; rfl
  have ek : ((b : Int).tmod (n : Int)) = (k : Int) := by rw [hk]; rfl
  have hil : i < l.length := by rw [hln.out]; exact hin
  have hkl : k < l.length := by rw [hln.out]; exact hkn
  obtain ⟨b1, off, rfl, hbl, hx⟩ := HR.out.get (k := i) hil
  obtain ⟨b1', off', hbo, _, hy⟩ := HR.out.get (k := k) hkl
  injection hbo with hbo
  injection hbo with hbo1 hbo2
  subst hbo1; subst hbo2
  have HX := Lib.hid hx
  have HY := Lib.hid hy
  have hx15 := H15.out i
  have hy15 := H15.out k
  have HPi := Lib.hid (fun h0 => pos_small (l := l) hil h0 hx15 h3)
  have HPk := Lib.hid (fun h0 => pos_small (l := l) hkl h0 hy15 h3)
  have HPe : Hid (code l i * 2 ^ (15 - nth l i) = pos l i ∧ code l k * 2 ^ (15 - nth l k) = pos l k) := Lib.hid ⟨rfl, rfl⟩
  have HPo := Lib.hid (fun h0 o => pos_ahead (l := l) (i := i) (k := k) hil hkl h0 hy15 o)
  have hp2 := Lib.hid (Nat.two_pow_pos (15 - nth l i))
  obtain ⟨x, hxx⟩ : ∃ x, x = nth l i := ⟨_, rfl⟩
  obtain ⟨y, hyy⟩ : ∃ y, y = nth l k := ⟨_, rfl⟩
  rw [← hxx] at HX hx15 HPi HPe HPo hp2
  rw [← hyy] at HY hy15 HPk HPe HPo
  have HXN := Lib.hid hxx
  have HYN := Lib.hid hyy
  have hci : Hid (code l i < 2 ^ 15 ∧ code l k < 2 ^ 15) := Lib.hid ⟨Nat.lt_of_lt_of_le (code_lt hil (by rw [← hxx]; exact hx15) h3) (Nat.pow_le_pow_right (by omega) (by rw [← hxx]; exact hx15)), Nat.lt_of_lt_of_le (code_lt hkl (by rw [← hyy]; exact hy15) h3) (Nat.pow_le_pow_right (by omega) (by rw [← hyy]; exact hy15))⟩
  have hn0 : ((n : Int) == 0) = false := by simp; omega
  clear hl hi hk h2 h3 he hx hy HR HC hxx hyy hil hkl
  go_enter Try.func6, Try.ntmps6
  go_wp2_with fail
  refine HO.out.mono ?_
  rintro e w1 ⟨g, rfl, hg, _, hb1⟩
  have B1 := Lib.hid hb1
  have kx := (hb1.cell (p := ⟨b1, off + i, none⟩) hbl).trans HX.out
  have ky := (hb1.cell (p := ⟨b1, off + k, none⟩) hbl).trans HY.out
  have ci := (hg.cell i).trans (arr_get _ hin)
  have ck := (hg.cell k).trans (arr_get _ hkn)
  obtain ⟨P, hP⟩ : ∃ P, P = pos l i := ⟨_, rfl⟩
  obtain ⟨Q, hQ⟩ : ∃ Q, Q = pos l k := ⟨_, rfl⟩
  obtain ⟨C, hC⟩ : ∃ C, C = code l i := ⟨_, rfl⟩
  obtain ⟨D, hD⟩ : ∃ D, D = code l k := ⟨_, rfl⟩
  rw [← hP] at HPi HPe HPo
  rw [← hQ] at HPk HPe HPo
  rw [← hC] at ci HPe hci
  rw [← hD] at ck HPe hci
  clear hb1 hg hP hQ hC hD HO HX HY
  rcases Nat.eq_zero_or_pos x with rfl | h0
  · go_wp2_with fail
    go_quiet (fail)
    go_wp2_with (go_at_call 7; refine (known_any _).mono ?_; rintro e w' ⟨rfl, hb⟩)
    go_ret
    exact ⟨rfl, grows (below_drews B1.out _) hb⟩
  · have h0' : ((x : Int) == 0) = false := by simp; omega
    rcases Nat.eq_zero_or_pos y with rfl | hy0
    · go_wp2_with fail
      go_quiet (fail)
      go_wp2_with (go_at_call 7; refine (known_any _).mono ?_; rintro e w' ⟨rfl, hb⟩)
      go_ret
      exact ⟨rfl, grows (below_drews B1.out _) hb⟩
    · have hy0' : ((y : Int) == 0) = false := by simp; omega
      by_cases hxy : y < x
      · go_wp2_with fail
        go_quiet (fail)
        go_wp2_with (go_at_call 7; refine (known_any _).mono ?_; rintro e w' ⟨rfl, hb⟩)
        go_ret
        exact ⟨rfl, grows (below_drews B1.out _) hb⟩
      · by_cases hxe : x = y
        · subst hxe
          by_cases hik : k ≤ i
          · go_wp2_with fail
            go_quiet (fail)
            go_wp2_with (go_at_call 7; refine (known_any _).mono ?_; rintro e w' ⟨rfl, hb⟩)
            go_ret
            exact ⟨rfl, grows (below_drews B1.out _) hb⟩
          · have E1 := Lib.hid (wrap_pos C x P HPe.out.1 (HPi.out h0))
            have E2 := Lib.hid (wrap_pos D x Q HPe.out.2 (HPk.out hy0))
            have hPQ : Hid (P < Q) := Lib.hid (by have := HPo.out h0 (.inr ⟨rfl, by omega⟩); have := hp2.out; omega)
            go_wp2_with fail
            go_quiet (fail)
            obtain ⟨w2, hw2⟩ : ∃ w2, w2 = w1.drewN nq := ⟨_, rfl⟩
            have kx2 : w2.cell? ⟨b1, off + i, none⟩ = some (.int .i64 (x : Int)) := by rw [hw2]; exact kx
            have ky2 : w2.cell? ⟨b1, off + k, none⟩ = some (.int .i64 (x : Int)) := by rw [hw2]; exact ky
            have ci2 : w2.cell? ⟨g, i, none⟩ = some (.int .i64 (C : Int)) := by rw [hw2]; exact ci
            have ck2 : w2.cell? ⟨g, k, none⟩ = some (.int .i64 (D : Int)) := by rw [hw2]; exact ck
            have B2 : Hid (Below w.heap.size w w2) := Lib.hid (by rw [hw2]; exact below_drews B1.out _)
            rw [← hw2]
            clear hw2 kx ky ci ck B1
            go_wp2_with fail
            go_still_tail 24, (by kernel_rfl)
            go_wp2_with (go_at_call 7; refine (known_any _).mono ?_; rintro e w' ⟨rfl, hb⟩)
            · go_ret
              exact ⟨rfl, grows (below_drew B2.out) hb⟩
            · rename_i hh
              exfalso
              rw [E1.out, E2.out] at hh
              have := hPQ.out
              omega
        · have E1 := Lib.hid (wrap_pos C x P HPe.out.1 (HPi.out h0))
          have E2 := Lib.hid (wrap_pos D y Q HPe.out.2 (HPk.out hy0))
          have hPQ : Hid (P < Q) := Lib.hid (by have := HPo.out h0 (.inl (by omega)); have := hp2.out; omega)
          have hxe' : ((x : Int) == (y : Int)) = false := by simp; omega
          go_wp2_with fail
          go_quiet (fail)
          obtain ⟨w2, hw2⟩ : ∃ w2, w2 = w1.drewN nq := ⟨_, rfl⟩
          have kx2 : w2.cell? ⟨b1, off + i, none⟩ = some (.int .i64 (x : Int)) := by rw [hw2]; exact kx
          have ky2 : w2.cell? ⟨b1, off + k, none⟩ = some (.int .i64 (y : Int)) := by rw [hw2]; exact ky
          have ci2 : w2.cell? ⟨g, i, none⟩ = some (.int .i64 (C : Int)) := by rw [hw2]; exact ci
          have ck2 : w2.cell? ⟨g, k, none⟩ = some (.int .i64 (D : Int)) := by rw [hw2]; exact ck
          have B2 : Hid (Below w.heap.size w w2) := Lib.hid (by rw [hw2]; exact below_drews B1.out _)
          rw [← hw2]
          clear hw2 kx ky ci ck B1
          go_wp2_with fail
          go_still_tail 24, (by kernel_rfl)
          go_wp2_with (go_at_call 7; refine (known_any _).mono ?_; rintro e w' ⟨rfl, hb⟩)
          · go_ret
            exact ⟨rfl, grows (below_drew B2.out) hb⟩
          · rename_i hh
            exfalso
            rw [E1.out, E2.out] at hh
            have := hPQ.out
            omega

set_option maxRecDepth 100000 in
theorem walk (A : Option Addr) (n cap : Nat) (f : Nat → Int) (a b : Int) (w : World) (w0 : n ≤ 9223372036854775807 ∧ row w A n f) (w1 : (Lit.int .u16 a).wf = true) (w2 : (Lit.int .u16 b).wf = true) :
    Calls Try.prog 6 #[.slice A n cap, .int .u16 a, .int .u16 b] w fun e w' => e = .returned (.bool true) ∧ Below w.heap.size w w' := by
  obtain ⟨hn, hr⟩ := w0
  have HC := Lib.hid hr
  clear hr
  have ha : 0 ≤ a ∧ a ≤ 65535 := by simpa [Lit.wf, IntKind.min, IntKind.max, IntKind.signed, IntKind.bits] using w1
  have hb : 0 ≤ b ∧ b ≤ 65535 := by simpa [Lit.wf, IntKind.min, IntKind.max, IntKind.signed, IntKind.bits] using w2
  clear w1 w2
  by_cases h0 : n = 0
  · subst h0
    go_enter Try.func6, Try.ntmps6
    go_wp2_with (go_at_call 7; refine (known_any _).mono ?_; rintro e w' ⟨rfl, hb⟩)
    go_ret
    exact ⟨rfl, hb⟩
  · by_cases h320 : 320 < n
    · have h0' : ((n : Int) == 0) = false := by simp; omega
      go_enter Try.func6, Try.ntmps6
      go_wp2_with (go_at_call 7; refine (known_any _).mono ?_; rintro e w' ⟨rfl, hb⟩)
      go_ret
      exact ⟨rfl, hb⟩
    · by_cases he : err n f = 0
      · obtain ⟨a, rfl⟩ := Int.eq_ofNat_of_zero_le ha.1
        obtain ⟨b, rfl⟩ := Int.eq_ofNat_of_zero_le hb.1
        exact coded a b (by omega) (by omega) (by omega) he HC
      · have h0' : ((n : Int) == 0) = false := by simp; omega
        have HU := Lib.hid (Codes_no (cap := cap) hn he HC)
        obtain ⟨e, hee⟩ : ∃ e, e = err n f := ⟨_, rfl⟩
        rw [← hee] at HU he
        clear hee HC
        go_enter Try.func6, Try.ntmps6
        go_wp2_with fail
        refine HU.out.mono ?_
        rintro e w1 ⟨rfl, b1⟩
        go_wp2_with (go_at_call 7; refine (known_any _).mono ?_; rintro e w' ⟨rfl, hb⟩)
        go_ret
        exact ⟨rfl, grows b1 hb⟩

set_option maxRecDepth 100000 in
theorem lifted (os : Os) (started : os.Started) (H : Type) (enc : TypeId × Value → H) :
    ReturnsInHanded {} Try.checked os 6 .any (Rows.lensOrderSpec.pre6 enc Try.prog Try.f6 Rows.lensOrderRow.domain false) (Rows.lensOrderSpec.post enc Try.prog Try.f6 false true false false) := by
  refine returnsInHanded_of_change (C := Try.checked) own started (by kernel_rfl) Try.func6
    (ChangeSpec.witness6 (enc := enc) (C := Try.checked) false ⟨#[], #[.slice none 0 0, .int .u16 0, .int .u16 0], []⟩ 8 (by kernel_rfl) (by kernel_rfl) (by kernel_rfl) (by kernel_rfl)) ?_
  intro W base args ds gs before hval0 hW _ _
  have hval : ∀ (j : Nat) t v, Try.f6.params[j]? = some t → args[j]? = some v → Value.okWide Try.prog W .any base t v := hval0
  have hW' := hW
  obtain ⟨p, q, hA0, hV, rfl, hfz, hnd⟩ := hW
  have hA : DataW.TrodAll enc Try.prog W 0 (fun _ => true) true Try.f6.params.toList args.toList ds p := hA0
  rw [Try.params6] at hA hval
  obtain ⟨v0, vs0, d0, ds0, p0, q0, hargs, rfl, rfl, h0, r0⟩ := trodAll_cons hA
  obtain ⟨v1, vs1, d1, ds1, p1, q1, rfl, rfl, rfl, h1, r1⟩ := trodAll_cons r0
  obtain ⟨v2, vs2, d2, ds2, p2, q2, rfl, rfl, rfl, h2, r2⟩ := trodAll_cons r1
  obtain ⟨rfl, rfl, rfl⟩ := trodAll_nil r2
  obtain rfl : args = #[v0, v1, v2] := by cases args; simp_all
  obtain ⟨rfl, rfl⟩ := trodVars_none hV
  obtain ⟨A0, n0, c0, f0, rfl, w0⟩ := open_row Try.underlying22 Try.underlying3 (by kernel_rfl) (hval 0 22 v0 rfl rfl) h0
  obtain ⟨a1, rfl, rfl, rfl, w1⟩ := open_int Try.underlying33 (hval 1 33 v1 rfl rfl) h1
  obtain ⟨a2, rfl, rfl, rfl, w2⟩ := open_int Try.underlying33 (hval 2 33 v2 rfl rfl) h2
  refine (walk A0 n0 c0 f0 a1 a2 W w0 w1 w2).mono fun e W' ⟨he, hb⟩ => ?_
  subst he
  exact ⟨_, rfl, law_post (P := Try.prog) (f := Try.f6) laidOut (by kernel_rfl) (by kernel_rfl) Try.underlying4 rfl hW' rfl hb⟩

theorem proved : Rows.LensOrderSaid :=
  OpenClaim.holds_of_wide 6 Try.f6 rfl rfl rfl rfl rfl rfl rfl ⟨rfl, rfl, rfl, rfl, rfl⟩ rfl rfl rfl rfl rfl (by kernel_rfl) Try.func6 (by kernel_rfl)
    (of_decide_eq_true (by kernel_rfl)) (by unfold Func.isWrapper; first | (rw [if_pos (by decide +kernel)]; kernel_rfl) | (rw [if_neg (by decide +kernel)]; exact ⟨rfl, rfl⟩))
    (fun os started H enc _ => lifted os started H enc)
#print axioms proved
end Go.Proofs.Ytbhheikkalkgdaa.lensOrder
