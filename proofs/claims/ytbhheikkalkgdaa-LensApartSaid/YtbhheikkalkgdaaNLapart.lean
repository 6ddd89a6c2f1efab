/-
  collimatorlaw05.LensApart returns true for every list of lengths: no code begins with another one.
  Conditions: none.
-/
import Derived.Test.YtbhheikkalkgdaaNk
import Derived.Test.YtbhheikkalkgdaaNy
import Derived.Test.YtbhheikkalkgdaaLw
import Derived.StillTailTactics
namespace Go.Proofs.Ytbhheikkalkgdaa.lensApart
open Go.ChangeShapes Go.WideShapes Go.ChangeAt Go.RowKit
open Go.ChangeMaps (open_string shut_string)
open Go.Proofs.Ytbhheikkalkgdaa.Lw Go.Proofs.Ytbhheikkalkgdaa.Vm Go.Proofs.Ytbhheikkalkgdaa.Na Go.Proofs.Ytbhheikkalkgdaa.Nm Go.Proofs.Ytbhheikkalkgdaa.Bw Go.Proofs.Ytbhheikkalkgdaa.Ni Go.Proofs.Ytbhheikkalkgdaa.Nc Go.Proofs.Ytbhheikkalkgdaa.Nd Go.Proofs.Ytbhheikkalkgdaa.Ne Go.Proofs.Ytbhheikkalkgdaa.Nf Go.Proofs.Ytbhheikkalkgdaa.Ng Go.Proofs.Ytbhheikkalkgdaa.Nh Go.Proofs.Ytbhheikkalkgdaa.Nk Go.Proofs.Ytbhheikkalkgdaa.Ny

theorem own : ownKnob Try.prog.godebug = none := by kernel_rfl
theorem laidOut : laidOutB Try.prog = true := by kernel_rfl

/-- Cut to the length of an earlier or a later one, a code is another number. -/
theorem cut_apart {l : List Nat} {i k : Nat} (hi : i < l.length) (hk : k < l.length) (hik : i ≠ k) (h0 : 0 < nth l i) (hle : nth l i ≤ nth l k) (h15 : nth l k ≤ 15) : code l k / 2 ^ (nth l k - nth l i) ≠ code l i := by
  intro e
  have hp := Nat.two_pow_pos (nth l k - nth l i)
  have q := Nat.two_pow_pos (15 - nth l k)
  have h1 := Nat.div_mul_le_self (code l k) (2 ^ (nth l k - nth l i))
  have h2 := Nat.lt_div_mul_add (a := code l k) hp
  rw [e] at h1 h2
  have e2 : 2 ^ (nth l k - nth l i) * 2 ^ (15 - nth l k) = 2 ^ (15 - nth l i) := by rw [← Nat.pow_add]; congr 1; omega
  have m1 := Nat.mul_le_mul_right (2 ^ (15 - nth l k)) h1
  have m2 := Nat.mul_lt_mul_of_pos_right h2 q
  rw [Nat.mul_assoc, e2] at m1
  rw [Nat.add_mul, Nat.mul_assoc, e2] at m2
  have pi : pos l i = code l i * 2 ^ (15 - nth l i) := rfl
  have pk : pos l k = code l k * 2 ^ (15 - nth l k) := rfl
  rw [← pi, ← pk] at m1 m2
  rcases (show nth l i < nth l k ∨ (nth l i = nth l k ∧ i < k) ∨ (nth l k = nth l i ∧ k < i) by omega) with o | o | o
  · have := pos_ahead hi hk h0 h15 (.inl o); omega
  · have := pos_ahead hi hk h0 h15 (.inr o); omega
  · have := pos_ahead hk hi (by omega) (by omega) (.inr o); omega

theorem one_shl : ∀ x, x < 16 → IntKind.i64.wrap (2 ^ min (IntKind.u64.wrap ((x : Nat) : Int)).toNat 64) = ((2 ^ x : Nat) : Int) := by decide +kernel

set_option maxHeartbeats 1000000 in
set_option maxRecDepth 100000 in
theorem coded {A : Option Addr} {n cap : Nat} {f : Nat → Int} {w : World} (he : err n f = 0) (HC : Hid (row w A n f)) :
    Calls Try.prog 4 #[.slice A n cap] w fun e w' => e = .returned (.bool true) ∧ Below w.heap.size w w' := by
  obtain ⟨h1, h2, h3⟩ := err_zero he
  have HO := Lib.hid (Codes_ok (cap := cap) he HC)
  have HR := Lib.hid (L_row h2 HC.out)
  have H15 := Lib.hid (L_le h2)
  obtain ⟨l, hl⟩ : ∃ l, l = L n f := ⟨_, rfl⟩
  have hln : Hid (l.length = n) := Lib.hid (by rw [hl, L_length])
  rw [← hl] at HO HR H15 h3
  have H3 := Lib.hid h3
  clear hl h2 h3 he HC
  go_enter Try.func4, Try.ntmps4
  go_wp2_with fail
  refine HO.out.mono ?_
  rintro e w1 ⟨g, rfl, hg, _, hb1⟩
  have B1 := Lib.hid hb1
  have G1 := Lib.hid hg
  clear hb1 hg HO
  go_wp2
  go_loopw [5] (fun s wr => ∃ i : Nat, s = .int .i64 i ∧ i ≤ n ∧ Hid (Blk wr g 3 (arr n (fun i => (code l i : Int)))) ∧ Hid (Below w.heap.size w wr)) (fun s _ => n - (intOf s).toNat)
  case atStart => exact ⟨0, rfl, by omega, G1, B1⟩
  case round =>
    obtain ⟨i, rfl, hi, G2, B2⟩ := hrel
    clear G1 B1
    by_cases hin : i < n
    · have hil : Hid (i < l.length) := Lib.hid (by rw [hln.out]; exact hin)
      obtain ⟨b1, off, rfl, hbl, hx⟩ := HR.out.get (k := i) hil.out
      have kx := (B2.out.cell (p := ⟨b1, off + i, none⟩) hbl).trans hx
      have ci := (G2.out.cell i).trans (arr_get _ hin)
      have hx15 := H15.out i
      have HLt := Lib.hid (code_lt hil.out hx15 H3.out)
      have HX : Hid (w.cell? ⟨b1, off + i, none⟩ = some (.int .i64 (nth l i : Int))) := Lib.hid hx
      obtain ⟨x, hxx⟩ : ∃ x, x = nth l i := ⟨_, rfl⟩
      obtain ⟨C, hC⟩ : ∃ C, C = code l i := ⟨_, rfl⟩
      rw [← hxx] at kx hx15 HLt HX
      rw [← hC] at ci HLt
      have HXN := Lib.hid hxx
      have HCN := Lib.hid hC
      clear hx hxx hC
      go_wp2
      go_quiet (fail)
      go_wp2
      · exfalso
        rename_i hh
        rw [one_shl x (by omega)] at hh
        have := HLt.out
        omega
      · obtain ⟨w2, hw2⟩ : ∃ w2, w2 = wr.drewN nq := ⟨_, rfl⟩
        have G3 : Hid (Blk w2 g 3 (arr n (fun i => (code l i : Int)))) := Lib.hid (by rw [hw2]; exact G2.out)
        have B3 : Hid (Below w.heap.size w w2) := Lib.hid (by rw [hw2]; exact below_drews B2.out _)
        rw [← hw2]
        clear hw2 kx ci G2 B2
        obtain ⟨wo, hwo⟩ : ∃ wo : World, wo = wr := ⟨_, rfl⟩
        go_loopw [6] (fun s wr => ∃ k : Nat, s = .int .i64 k ∧ k ≤ n ∧ Hid (Blk wr g 3 (arr n (fun i => (code l i : Int)))) ∧ Hid (Below w.heap.size w wr)) (fun s _ => n - (intOf s).toNat)
        case atStart => exact ⟨0, rfl, by omega, G3, B3⟩
        case round =>
          obtain ⟨k, rfl, hk, G4, B4⟩ := hrel
          clear G3 B3
          by_cases hkn : k < n
          · have hkl : Hid (k < l.length) := Lib.hid (by rw [hln.out]; exact hkn)
            obtain ⟨b2, off2, hbo, _, hy⟩ := HR.out.get (k := k) hkl.out
            injection hbo with hbo
            injection hbo with hbo1 hbo2
            subst hbo1; subst hbo2
            have kx := (B4.out.cell (p := ⟨b1, off + i, none⟩) hbl).trans HX.out
            have ky := (B4.out.cell (p := ⟨b1, off + k, none⟩) hbl).trans hy
            have ci := (G4.out.cell i).trans (arr_get _ hin)
            have ck := (G4.out.cell k).trans (arr_get _ hkn)
            have hy15 := H15.out k
            have HAp := Lib.hid (fun a b c => cut_apart (l := l) hil.out hkl.out a b c hy15)
            obtain ⟨y, hyy⟩ : ∃ y, y = nth l k := ⟨_, rfl⟩
            obtain ⟨D, hD⟩ : ∃ D, D = code l k := ⟨_, rfl⟩
            rw [← HCN.out] at ci HAp
            rw [← HXN.out] at HAp
            rw [← hyy] at ky hy15 HAp
            rw [← hD] at ck HAp
            clear hy hyy hD
            by_cases hik : i = k
            · subst hik
              go_wp2
              go_quiet (fail)
              go_wp2
              go_roundw
              case rel => exact ⟨i + 1, by go_num, by omega, Lib.hid (G4.out.draws _), Lib.hid (below_drews B4.out _)⟩
              case measure => simp [intOf]; omega
            · have hik' : ((i : Int) != (k : Int)) = true := by simp; omega
              rcases Nat.eq_zero_or_pos x with hx0 | h0
              · have hx0' : decide (0 < x) = false := by simp; omega
                clear hx0
                go_wp2
                go_quiet (fail)
                go_wp2
                go_roundw
                case rel => exact ⟨k + 1, by go_num, by omega, Lib.hid (G4.out.draws _), Lib.hid (below_drews B4.out _)⟩
                case measure => simp [intOf]; omega
              · by_cases hyx : y < x
                · have hyx' : decide (x ≤ y) = false := by simp; omega
                  go_wp2
                  go_quiet (fail)
                  go_wp2
                  go_roundw
                  case rel => exact ⟨k + 1, by go_num, by omega, Lib.hid (G4.out.draws _), Lib.hid (below_drews B4.out _)⟩
                  case measure => simp [intOf]; omega
                · have hyx' : (x : Int) ≤ (y : Int) := by omega
                  have hq : ((D : Int) / 2 ^ (y - x) == (C : Int)) = false := by
                    have h := HAp.out hik h0 (by omega)
                    rw [beq_eq_false_iff_ne]
                    intro e
                    apply h
                    have e2 : ((D / 2 ^ (y - x) : Nat) : Int) = (C : Int) := by rw [← e]; simp
                    exact Int.ofNat.inj e2
                  go_wp2
                  go_quiet (fail)
                  go_wp2
                  go_roundw
                  case rel => exact ⟨k + 1, by go_num, by omega, Lib.hid (G4.out.draws _), Lib.hid (below_drews B4.out _)⟩
                  case measure => simp [intOf]; omega
          · go_wp2
            go_roundw
            case rel => exact ⟨i + 1, by go_num, by omega, G4, B4⟩
            case measure => simp [intOf]; omega
    · go_wp2_with (go_at_call 7; refine (known_any _).mono ?_; rintro e w' ⟨rfl, hb⟩)
      go_ret
      exact ⟨rfl, grows B2.out hb⟩

set_option maxRecDepth 100000 in
theorem walk (A : Option Addr) (n cap : Nat) (f : Nat → Int) (w : World) (w0 : n ≤ 9223372036854775807 ∧ row w A n f) :
    Calls Try.prog 4 #[.slice A n cap] w fun e w' => e = .returned (.bool true) ∧ Below w.heap.size w w' := by
  obtain ⟨hn, hr⟩ := w0
  have HC := Lib.hid hr
  clear hr
  by_cases h320 : 320 < n
  · go_enter Try.func4, Try.ntmps4
    go_wp2_with (go_at_call 7; refine (known_any _).mono ?_; rintro e w' ⟨rfl, hb⟩)
    go_ret
    exact ⟨rfl, hb⟩
  · by_cases he : err n f = 0
    · exact coded he HC
    · have HU := Lib.hid (Codes_no (cap := cap) hn he HC)
      obtain ⟨e, hee⟩ : ∃ e, e = err n f := ⟨_, rfl⟩
      rw [← hee] at HU he
      clear hee HC
      go_enter Try.func4, Try.ntmps4
      go_wp2_with fail
      refine HU.out.mono ?_
      rintro e w1 ⟨rfl, b1⟩
      go_wp2_with (go_at_call 7; refine (known_any _).mono ?_; rintro e w' ⟨rfl, hb⟩)
      go_ret
      exact ⟨rfl, grows b1 hb⟩

set_option maxRecDepth 100000 in
theorem lifted (os : Os) (started : os.Started) (H : Type) (enc : TypeId × Value → H) :
    ReturnsInHanded {} Try.checked os 4 .any (Rows.lensApartSpec.pre6 enc Try.prog Try.f4 Rows.lensApartRow.domain false) (Rows.lensApartSpec.post enc Try.prog Try.f4 false true false false) := by
  refine returnsInHanded_of_change (C := Try.checked) own started (by kernel_rfl) Try.func4
    (ChangeSpec.witness6 (enc := enc) (C := Try.checked) false ⟨#[], #[.slice none 0 0], []⟩ 8 (by kernel_rfl) (by kernel_rfl) (by kernel_rfl) (by kernel_rfl)) ?_
  intro W base args ds gs before hval0 hW _ _
  have hval : ∀ (j : Nat) t v, Try.f4.params[j]? = some t → args[j]? = some v → Value.okWide Try.prog W .any base t v := hval0
  have hW' := hW
  obtain ⟨p, q, hA0, hV, rfl, hfz, hnd⟩ := hW
  have hA : DataW.TrodAll enc Try.prog W 0 (fun _ => true) true Try.f4.params.toList args.toList ds p := hA0
  rw [Try.params4] at hA hval
  obtain ⟨v0, vs0, d0, ds0, p0, q0, hargs, rfl, rfl, h0, r0⟩ := trodAll_cons hA
  obtain ⟨rfl, rfl, rfl⟩ := trodAll_nil r0
  obtain rfl : args = #[v0] := by cases args; simp_all
  obtain ⟨rfl, rfl⟩ := trodVars_none hV
  obtain ⟨A0, n0, c0, f0, rfl, w0⟩ := open_row Try.underlying22 Try.underlying3 (by kernel_rfl) (hval 0 22 v0 rfl rfl) h0
  refine (walk A0 n0 c0 f0 W w0).mono fun e W' ⟨he, hb⟩ => ?_
  subst he
  exact ⟨_, rfl, law_post (P := Try.prog) (f := Try.f4) laidOut (by kernel_rfl) (by kernel_rfl) Try.underlying4 rfl hW' rfl hb⟩

theorem proved : Rows.LensApartSaid :=
  OpenClaim.holds_of_wide 4 Try.f4 rfl rfl rfl rfl rfl rfl rfl ⟨rfl, rfl, rfl, rfl, rfl⟩ rfl rfl rfl rfl rfl (by kernel_rfl) Try.func4 (by kernel_rfl)
    (of_decide_eq_true (by kernel_rfl)) (by unfold Func.isWrapper; first | (rw [if_pos (by decide +kernel)]; kernel_rfl) | (rw [if_neg (by decide +kernel)]; exact ⟨rfl, rfl⟩))
    (fun os started H enc _ => lifted os started H enc)
#print axioms proved
end Go.Proofs.Ytbhheikkalkgdaa.lensApart
