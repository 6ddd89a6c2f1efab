/-
  collimatorlaw07.WindowAhead returns true for every string and two integers: what is copied stands in the text just so far ahead, byte for byte.
  Conditions: none.
-/
import Derived.Test.YtfdikleohoclfaaLw
import Derived.Test.YtfdikleohoclfaaWk
import Derived.Test.YtfdikleohoclfaaCc
import Derived.PlainAid
import Derived.BigQuiet
namespace Go.Proofs.Ytfdikleohoclfaa.windowAhead
open Go.ChangeShapes Go.WideShapes Go.ChangeAt Go.RowKit
open Go.ChangeMaps (open_string shut_string)
open Go.Proofs.Ytfdikleohoclfaa.Lw Go.Proofs.Ytfdikleohoclfaa.Vm Go.Proofs.Ytfdikleohoclfaa.Vo Go.Proofs.Ytfdikleohoclfaa.Bw Go.Proofs.Ytfdikleohoclfaa.Br Go.Proofs.Ytfdikleohoclfaa.Wr Go.Proofs.Ytfdikleohoclfaa.Wc Go.Proofs.Ytfdikleohoclfaa.Ww Go.Proofs.Ytfdikleohoclfaa.Wx Go.Proofs.Ytfdikleohoclfaa.Wp Go.Proofs.Ytfdikleohoclfaa.Wq Go.Proofs.Ytfdikleohoclfaa.Wn Go.Proofs.Ytfdikleohoclfaa.Wo Go.Proofs.Ytfdikleohoclfaa.Wd Go.Proofs.Ytfdikleohoclfaa.Wk Go.PlainAid

theorem own : ownKnob Try.prog.godebug = none := by kernel_rfl
theorem laidOut : laidOutB Try.prog = true := by kernel_rfl

theorem bt_get (s : ByteArray) (i : Nat) (h : i < s.size) : s.data.toList[i]? = some (s[i]'h) := by
  rw [List.getElem?_eq_getElem (by rw [size_len]; exact h)]; rfl
theorem bt_eq {s : ByteArray} {i j : Nat} (hi : i < s.size) (hj : j < s.size) (h : s.data.toList[i]? = s.data.toList[j]?) : bt s i = bt s j := by
  rw [bt_get s i hi, bt_get s j hj] at h
  injection h with h
  rw [← get_bt s i hi, ← get_bt s j hj, h]
theorem str_eq {s : ByteArray} {l : List UInt8} (h : s.data.toList = l) : (⟨l.toArray⟩ : ByteArray) = s := by
  subst h; simp
theorem app_list (s t : ByteArray) : (s ++ t).data.toList = s.data.toList ++ t.data.toList := by simp

set_option maxHeartbeats 2000000 in
set_option maxRecDepth 100000 in
theorem inner (s : ByteArray) (d n : Int) (hd : -9223372036854775808 ≤ d ∧ d ≤ 9223372036854775807) (hn : -9223372036854775808 ≤ n ∧ n ≤ 9223372036854775807) (h0 : 0 < s.size) (hs : s.size ≤ 3000) (w : World) :
    Calls Try.prog 4 #[.string s, .int .i64 d, .int .i64 n] w fun e w' => e = .returned (.bool true) ∧ Below w.heap.size w w' := by
  have hsl := size_len s
  have hz : ((s.size : Int) == 0) = false := by rw [beq_eq_false_iff_ne]; omega
  have hz3 : decide (3000 < (s.size : Int)) = false := by simp; omega
  obtain ⟨c, hc⟩ : ∃ c, c = s.data.toList := ⟨_, rfl⟩
  have HN := Lib.hid (hNew s (by omega) w)
  rw [Wm.lastN_all (by rw [hsl]; omega), ← hc] at HN
  rw [← hc] at hsl
  obtain ⟨B, hB⟩ : ∃ B, B = w.heap.size := ⟨_, rfl⟩
  have HB := Lib.hid hB
  rw [← hB] at HN ⊢
  have HC := Lib.hid hc
  have HL := Lib.hid hsl
  clear hB hc hsl
  go_enter Try.func4, Try.ntmps4
  go_wp2_with (go_at_call 8; refine HN.out.mono ?_; rintro e w1 ⟨rfl, h1, b1⟩; have H1 := Lib.hid h1; have B1 := Lib.hid b1; clear h1 b1 HN)
  refine (Cc.Count_any d s.size hd h0 (by omega) _).mono ?_
  rintro e w' ⟨rfl, rfl⟩
  have hk : Cc.cnt d s.size < s.size := Cc.cnt_lt d h0
  generalize Cc.cnt d s.size = D0 at *
  go_wp2_with fail
  refine (Cc.Count_any n 600 hn (by omega) (by omega) _).mono ?_
  rintro e w' ⟨rfl, rfl⟩
  have hK : Cc.cnt n 600 < 600 := Cc.cnt_lt n (by omega)
  generalize Cc.cnt n 600 = K at *
  obtain ⟨D, hD⟩ : ∃ D, D = 1 + D0 := ⟨_, rfl⟩
  have eD : (1 : Int) + (D0 : Int) = (D : Int) := by omega
  have hD1 : 1 ≤ D := by omega
  have hD2 : D ≤ s.size := by omega
  clear hD hk
  have HCP := Lib.hid (hCopy_ok H1.out (D := D) (N := K) (by omega) hD1 (by rw [HL.out]; exact hD2))
  obtain ⟨T, hT⟩ : ∃ T : ByteArray, T = ⟨(Wm.out c D K).toArray⟩ := ⟨_, rfl⟩
  rw [← hT] at HCP
  have hTl : T.data.toList = Wm.out c D K := by rw [hT]
  have hTs : T.size = K := by rw [← size_len, hTl, Wm.out_length]
  have HT := Lib.hid hTl
  have HTs := Lib.hid hTs
  have hTn : ((T.size : Int) != (K : Int)) = false := by simp [hTs]
  clear hT hTl
  obtain ⟨X, hX⟩ : ∃ X, s ++ T = X := ⟨_, rfl⟩
  have hXl : X.data.toList = Wm.ext c D K := by rw [← hX, app_list, HT.out, ← HC.out, ← Wm.ext_out]
  have hXs : X.size = s.size + K := by rw [← size_len, hXl, Wm.ext_length, HL.out]
  have HXl := Lib.hid hXl
  have HXs := Lib.hid hXs
  have HXp : Hid (Wm.put 32768 c (Wm.out c D K) = X.data.toList) := Lib.hid (by rw [hXl, Wm.ext_out]; unfold Wm.put; rw [Wm.lastN_all]; rw [List.length_append, Wm.out_length, HL.out]; omega)
  rw [HXp.out] at HCP
  have hXn : (s.size : Int) ≤ (X.size : Int) := by omega
  have hXm : X.size ≤ 4000 := by omega
  clear hXl hXs hTs
  go_wp2_with fail
  refine HCP.out.mono ?_
  rintro e w2 ⟨rfl, h2, b2⟩
  have H2 := Lib.hid h2
  have B2 := Lib.hid (B1.out.trans b2)
  clear h2 b2 H1 B1 HCP
  have HX := Lib.hid hX
  clear hX eD hz hz3
  have hTs : T.size = K := HTs.out
  clear hTn
  go_wp2_with fail
  rw [HX.out]
  clear hTs
  go_loopw [13] (fun s13 wr => ∃ i : Nat, s13 = .int .i64 i ∧ s.size ≤ i ∧ i ≤ X.size ∧ Hid (holds B wr B X.data.toList) ∧ Hid (Below B w wr)) (fun s13 _ => X.size - (intOf s13).toNat)
  case atStart => exact ⟨s.size, rfl, Nat.le_refl _, by omega, H2, B2⟩
  case round =>
    obtain ⟨i, rfl, hi1, hi2, H3, B3⟩ := hrel
    by_cases hi : i < X.size
    · obtain ⟨j, hj⟩ : ∃ j, j = i - D := ⟨_, rfl⟩
      have e1 : IntKind.i64.wrap ((i : Int) - (D : Int)) = (j : Int) := by rw [IntWalk.i64_in _ (by omega)]; omega
      have hbe : bt X i = bt X j := bt_eq hi (by omega) (by
        have h := Wm.ext_at (k := K) hD1 (by rw [HL.out]; exact hD2) (show c.length ≤ i by rw [HL.out]; exact hi1) (by rw [HL.out, ← HXs.out]; exact hi)
        rw [← HXl.out, ← hj] at h
        exact h)
      have hne : (bt X i != bt X j) = false := by rw [hbe]; simp
      have hji : j < X.size := by omega
      have i1 : (i : Int) < (X.size : Int) := by omega
      have j1 : (j : Int) < (X.size : Int) := by omega
      have i0 : (0 : Int) ≤ (i : Int) := by omega
      have j0 : (0 : Int) ≤ (j : Int) := by omega
      have hb := get_bt X
      clear hj hbe
      go_wp2_with fail
      go_quiet (fail)
      clear e1 hb
      go_wp2
      go_roundw
      case rel => exact ⟨i + 1, by go_num, by omega, by omega, Lib.hid (H3.out.below (below_draws _ _)), Lib.hid (B3.out.trans ((below_draws _ _).mono (by rw [HB.out]; exact B3.out.size)))⟩
      case measure => simp [intOf]; omega
    · have hiX : i = X.size := by omega
      subst hiX
      have HLa := Lib.hid (hLast H3.out X.size)
      have hXe : (⟨(Wm.lastN (X.size : Int).toNat X.data.toList).toArray⟩ : ByteArray) = X := str_eq (by rw [Int.toNat_natCast, Wm.lastN_all (by rw [size_len]; exact Nat.le_refl _)])
      rw [hXe] at HLa
      have hsz := size_len X
      clear hXe hi
      go_wp2_with fail
      refine HLa.out.mono ?_
      rintro e w4 ⟨rfl, b4⟩
      have HLe := Lib.hid (hLen (H3.out.below b4))
      rw [hsz] at HLe
      have B4 := Lib.hid (B3.out.trans (b4.mono (by rw [HB.out]; have := B3.out.size; exact this)))
      clear b4 hsz
      go_wp2_with (first | (go_at_call 19; refine HLe.out.mono ?_; rintro e w5 ⟨rfl, rfl⟩) | (go_at_call 7; refine (known_any _).mono ?_; rintro e w5 ⟨rfl, b5⟩; have B5 := Lib.hid b5; clear b5))
      go_ret
      exact ⟨rfl, B4.out.trans (B5.out.mono (by rw [HB.out]; exact B4.out.size))⟩

theorem walk (s : ByteArray) (d n : Int) (_ : s.size ≤ maxLen) (wd : (Lit.int .i64 d).wf = true) (wn : (Lit.int .i64 n).wf = true) (w : World) :
    Calls Try.prog 4 #[.string s, .int .i64 d, .int .i64 n] w fun e w' => e = .returned (.bool true) ∧ Below w.heap.size w w' := by
  have hd : -9223372036854775808 ≤ d ∧ d ≤ 9223372036854775807 := by simpa [Lit.wf, IntKind.min, IntKind.max, IntKind.signed, IntKind.bits] using wd
  have hn : -9223372036854775808 ≤ n ∧ n ≤ 9223372036854775807 := by simpa [Lit.wf, IntKind.min, IntKind.max, IntKind.signed, IntKind.bits] using wn
  by_cases h0 : s.size = 0
  · have hz : ((s.size : Int) == 0) = true := by simp [h0]
    clear h0
    go_enter Try.func4, Try.ntmps4
    go_wp2_with (go_at_call 7; refine (known_any _).mono ?_; rintro e w' ⟨rfl, hb⟩)
    go_ret
    exact ⟨rfl, hb⟩
  · by_cases hs : 3000 < s.size
    · have hz : ((s.size : Int) == 0) = false := by rw [beq_eq_false_iff_ne]; omega
      go_enter Try.func4, Try.ntmps4
      go_wp2_with (go_at_call 7; refine (known_any _).mono ?_; rintro e w' ⟨rfl, hb⟩)
      go_ret
      exact ⟨rfl, hb⟩
    · exact inner s d n hd hn (by omega) (by omega) w

set_option maxRecDepth 100000 in
theorem lifted (os : Os) (started : os.Started) (H : Type) (enc : TypeId × Value → H) :
    ReturnsInHanded {} Try.checked os 4 .any (Rows.windowAheadSpec.pre6 enc Try.prog Try.f4 Rows.windowAheadRow.domain false) (Rows.windowAheadSpec.post enc Try.prog Try.f4 false true false false) := by
  refine returnsInHanded_of_change (C := Try.checked) own started (by kernel_rfl) Try.func4
    (ChangeSpec.witness6 (enc := enc) (C := Try.checked) false ⟨#[], #[.string ByteArray.empty, .int .i64 0, .int .i64 0], []⟩ 8 (by kernel_rfl) (by kernel_rfl) (by kernel_rfl) (by kernel_rfl)) ?_
  intro W base args ds gs before hval0 hW _ _
  have hval : ∀ (j : Nat) t v, Try.f4.params[j]? = some t → args[j]? = some v → Value.okWide Try.prog W .any base t v := hval0
  have hW' := hW
  obtain ⟨p, q, hA0, hV, rfl, hfz, hnd⟩ := hW
  have hA : DataW.TrodAll enc Try.prog W 0 (fun _ => true) true Try.f4.params.toList args.toList ds p := hA0
  rw [Try.params4] at hA hval
  obtain ⟨v0, vs0, d0, ds0, p0, q0, hargs, rfl, rfl, h0, r0⟩ := trodAll_cons hA
  obtain ⟨v1, vs1, d1, ds1, p1, q1, rfl, rfl, rfl, h1, r1⟩ := trodAll_cons r0
  obtain ⟨v2, vs2, d2, ds2, p2, q2, rfl, rfl, rfl, h2, r2⟩ := trodAll_cons r1
  obtain ⟨rfl, rfl, rfl⟩ := trodAll_nil r2
  obtain rfl : args = #[v0, v1, v2] := by cases args; simp_all
  obtain ⟨rfl, rfl⟩ := trodVars_none hV
  obtain ⟨a0, rfl, rfl, rfl, w0⟩ := open_string Try.underlying9 (hval 0 9 v0 rfl rfl) h0
  obtain ⟨a1, rfl, rfl, rfl, w1⟩ := open_int Try.underlying3 (hval 1 3 v1 rfl rfl) h1
  obtain ⟨a2, rfl, rfl, rfl, w2⟩ := open_int Try.underlying3 (hval 2 3 v2 rfl rfl) h2
  refine (walk a0 a1 a2 w0 w1 w2 W).mono fun e W' ⟨he, hb⟩ => ?_
  subst he
  exact ⟨_, rfl, law_post (P := Try.prog) (f := Try.f4) laidOut (by kernel_rfl) (by kernel_rfl) Try.underlying4 rfl hW' rfl hb⟩

theorem proved : Rows.WindowAheadSaid :=
  OpenClaim.holds_of_wide 4 Try.f4 rfl rfl rfl rfl rfl rfl rfl ⟨rfl, rfl, rfl, rfl, rfl⟩ rfl rfl rfl rfl rfl (by kernel_rfl) Try.func4 (by kernel_rfl)
    (of_decide_eq_true (by kernel_rfl)) (by unfold Func.isWrapper; first | (rw [if_pos (by decide +kernel)]; kernel_rfl) | (rw [if_neg (by decide +kernel)]; exact ⟨rfl, rfl⟩))
    (fun os started H enc _ => lifted os started H enc)
#print axioms proved
end Go.Proofs.Ytfdikleohoclfaa.windowAhead
