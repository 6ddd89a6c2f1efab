/-
  collimatorlaw07.WindowHolds returns true for every string and byte: never more than the last 32768 bytes are held, and all of these; one byte further ahead there is nothing.
  Conditions: none.
-/
import Derived.Test.YtfdikleohoclfaaLw
import Derived.Test.YtfdikleohoclfaaWk
import Derived.Test.YtfdikleohoclfaaWg
import Derived.Deep.RegionHeld3
namespace Go.Proofs.Ytfdikleohoclfaa.windowHolds
open Go.ChangeShapes Go.WideShapes Go.ChangeAt Go.RowKit
open Go.ChangeMaps (open_string shut_string)
open Go.Proofs.Ytfdikleohoclfaa.Lw Go.Proofs.Ytfdikleohoclfaa.Vm Go.Proofs.Ytfdikleohoclfaa.Vo Go.Proofs.Ytfdikleohoclfaa.Bw Go.Proofs.Ytfdikleohoclfaa.Br Go.Proofs.Ytfdikleohoclfaa.Wr Go.Proofs.Ytfdikleohoclfaa.Wc Go.Proofs.Ytfdikleohoclfaa.Ww Go.Proofs.Ytfdikleohoclfaa.Wx Go.Proofs.Ytfdikleohoclfaa.Wp Go.Proofs.Ytfdikleohoclfaa.Wq Go.Proofs.Ytfdikleohoclfaa.Wn Go.Proofs.Ytfdikleohoclfaa.Wo Go.Proofs.Ytfdikleohoclfaa.Wd Go.Proofs.Ytfdikleohoclfaa.Wk Go.Proofs.Ytfdikleohoclfaa.Wg

theorem own : ownKnob Try.prog.godebug = none := by kernel_rfl
theorem laidOut : laidOutB Try.prog = true := by kernel_rfl

theorem str_eq {s : ByteArray} {l : List UInt8} (h : s.data.toList = l) : (⟨l.toArray⟩ : ByteArray) = s := by
  subst h; simp
theorem keeps {B : Nat} {w w1 w2 : World} {c : List UInt8} (h : holds B w1 B c ∧ Below B w w1) (k : Below w1.heap.size w1 w2) : holds B w2 B c ∧ Below B w w2 :=
  ⟨h.1.below k, h.2.trans (k.mono (by obtain ⟨v, l, x, h1, _⟩ := h.1; exact h1.b0))⟩

theorem copy_z {base : Nat} {w : World} {g : Nat} {c : List UInt8} (h : holds base w g c) {z : Int} {D : Nat} (hz : z = (D : Int)) (hD : 1 ≤ D) (hc : D = c.length) {Y : ByteArray} (hY : Y.data.toList = c.take 1) :
    Calls Try.prog 13 #[.pointer (some ⟨g, 0, none⟩), .int .i64 z, .int .i64 1] w fun e w' => e = .returned (.tuple #[.string Y, .int .i64 0]) ∧ Below base w w' := by
  subst hz
  have k := hCopy_ok h (D := D) (N := 1) (by omega) hD (by omega)
  have e : Wm.out c D 1 = c.take 1 := by
    rw [Wm.out_next]
    have e0 : Wm.out c D 0 = [] := by unfold Wm.out Wm.ext; rw [List.drop_length]
    rw [e0, List.nil_append, hc, Nat.add_zero, Nat.sub_self]
    unfold Wm.ext
    cases c with
    | nil => simp at hc; omega
    | cons a l => simp
  rw [e, str_eq hY] at k
  exact k.mono (fun _ _ ⟨h1, _, h3⟩ => ⟨h1, h3⟩)
theorem no_z {base : Nat} {w : World} {g : Nat} {c : List UInt8} (h : holds base w g c) {z : Int} (hz : z = (c.length : Int) + 1) :
    Calls Try.prog 13 #[.pointer (some ⟨g, 0, none⟩), .int .i64 z, .int .i64 1] w fun e w' => e = .returned (.tuple #[.string ⟨#[]⟩, .int .i64 10]) ∧ w = w' := by
  have e : copE c.length z 1 = 10 := by unfold copE; rw [if_neg (by omega), if_pos (by omega)]
  have k := hCopy_no h z 1 (by rw [e]; decide)
  rw [e] at k
  exact k
theorem len_z {base : Nat} {w : World} {g : Nat} {c : List UInt8} (h : holds base w g c) {z : Int} (hz : z = (c.length : Int)) : Calls Try.prog 19 #[.pointer (some ⟨g, 0, none⟩)] w fun e w' => e = .returned (.int .i64 z) ∧ w = w' := by
  subst hz; exact hLen h
theorem last_z {base : Nat} {w : World} {g : Nat} {c : List UInt8} (h : holds base w g c) {Y : ByteArray} (hY : Y.data.toList = c) : Calls Try.prog 15 #[.pointer (some ⟨g, 0, none⟩), .int .i64 32768] w fun e w' => e = .returned (.string Y) ∧ Below w.heap.size w w' := by
  have k := hLast h 32768
  have e : Wm.lastN (32768 : Int).toNat c = c := Wm.lastN_all h.len
  rw [e, str_eq hY] at k
  exact k
theorem holds_drew {base : Nat} {w : World} {g : Nat} {c : List UInt8} (h : holds base w g c) : holds base w.drew g c := h.below ⟨rfl, rfl, rfl, Nat.le_refl _, fun _ _ => rfl⟩

set_option maxHeartbeats 2000000 in
set_option maxRecDepth 100000 in
theorem inner (s : ByteArray) (t : Nat) (ht : t ≤ 255) (h0 : 0 < s.size) (hs : s.size ≤ 400) (w : World) :
    Calls Try.prog 5 #[.string s, .int .u8 t] w fun e w' => e = .returned (.bool true) ∧ Below w.heap.size w w' := by
  have hz : ((s.size : Int) == 0) = false := by rw [beq_eq_false_iff_ne]; omega
  have hz3 : decide (400 < (s.size : Int)) = false := by simp; omega
  have HN := Lib.hid (hNew ⟨#[]⟩ (by decide) w)
  obtain ⟨B, hB⟩ : ∃ B, B = w.heap.size := ⟨_, rfl⟩
  have HB := Lib.hid hB
  rw [← hB] at HN ⊢
  clear hB
  go_enter Try.func5, Try.ntmps5
  go_wp2_with (go_at_call 8; refine HN.out.mono ?_; rintro e w1 ⟨rfl, h1, b1⟩; have H1 := Lib.hid h1; have B1 := Lib.hid b1; clear h1 b1 HN)
  refine (Again_any s t (by omega) (by omega) _).mono ?_
  rintro e w2 ⟨rfl, b2⟩
  have H2 : Hid (holds B w2 B (Wm.lastN 32768 (Wm.again s.data.toList 0))) := Lib.hid (H1.out.below b2)
  have B2 : Hid (Below B w w2) := Lib.hid (B1.out.trans (b2.mono (by rw [HB.out]; exact B1.out.size)))
  clear b2 H1 B1
  obtain ⟨X, hX⟩ : ∃ X : ByteArray, X = ⟨(Wm.again s.data.toList t).toArray⟩ := ⟨_, rfl⟩
  rw [← hX]
  have hXl : X.data.toList = Wm.again s.data.toList t := by rw [hX]
  have hXs : X.size = t * s.size := by rw [← size_len, hXl, Wm.again_length, size_len]
  have HXl := Lib.hid hXl
  have hXm : X.size ≤ 102000 := by
    rw [hXs]
    have h1 := Nat.mul_le_mul ht hs
    omega
  clear hX hXl hXs
  go_wp2_with fail
  clear hz hz3
  go_loopw [7] (fun s7 wr => ∃ i : Nat, s7 = .int .i64 i ∧ i ≤ t ∧ Hid (holds B wr B (Wm.lastN 32768 (Wm.again s.data.toList i))) ∧ Hid (Below B w wr)) (fun s7 _ => t - (intOf s7).toNat)
  case atStart => exact ⟨0, rfl, Nat.zero_le _, H2, B2⟩
  case round =>
    obtain ⟨i, rfl, hi1, H3, B3⟩ := hrel
    by_cases hi : i < t
    · have HP := Lib.hid (hPut H3.out s (by omega))
      rw [Wm.put_again] at HP
      go_wp2_with (go_at_call 12; refine HP.out.mono ?_; rintro e w4 ⟨rfl, h4, b4⟩; have H4 := Lib.hid h4; have B4 := Lib.hid (B3.out.trans b4); clear h4 b4)
      go_roundw
      case rel => exact ⟨i + 1, by go_num, by omega, H4, B4⟩
      case measure => simp [intOf]; omega
    · have hit : i = t := by omega
      subst hit
      rw [← HXl.out] at H3
      clear HXl H2 B2 hi hi1
      by_cases hX3 : X.size ≤ 32768
      · have H5 : Hid (holds B wr B X.data.toList) := Lib.hid (by have h := H3.out; rw [Wm.lastN_all (by rw [size_len]; exact hX3)] at h; exact h)
        have hsl := size_len X
        have HS := Lib.hid hsl
        have eA : IntKind.i64.wrap (0 : Int) = 0 := by rw [IntWalk.i64_in _ (by omega)]
        have eB : IntKind.i64.wrap ((X.size : Int) - (X.size : Int)) = 0 := by rw [IntWalk.i64_in _ (by omega)]; omega
        have hE : X.extract 0 X.size = X := by simp
        have p0 : (0 : Int) ≤ (X.size : Int) := by omega
        clear hsl H3
        go_wp2_with fail
        go_region_held3 (fun w' => holds B w' B X.data.toList ∧ Below B w w') (first | exact ⟨holds_drew H5.out, B3.out.drew⟩ | assumption | (apply keeps; assumption; assumption))
          (first | (go_at_call 19; refine (len_z (z := X.size) (And.left (by assumption)) (by rw [HS.out])).mono ?_; rintro e w4 ⟨rfl, rfl⟩) | (go_at_call 15; refine (last_z (Y := X) (And.left (by assumption)) rfl).mono ?_; rintro e w4 ⟨rfl, b4⟩))
        next w6 h6 =>
        have H6 := Lib.hid h6.1
        have B6 := Lib.hid h6.2
        clear h6 eA eB hE
        go_wp2_with fail
        refine (no_z H6.out (by rw [HS.out])).mono ?_
        rintro e w' ⟨rfl, rfl⟩
        go_wp2_with fail
        refine (len_z (z := X.size) H6.out (by rw [HS.out])).mono ?_
        rintro e w' ⟨rfl, rfl⟩
        by_cases hX0 : X.size = 0
        · have hx0 : ((X.size : Int) == 0) = true := by rw [hX0]; rfl
          clear hX0
          go_wp2_with (go_at_call 7; refine (known_any _).mono ?_; rintro e w7 ⟨rfl, b7⟩; have B7 := Lib.hid b7; clear b7)
          go_ret
          exact ⟨rfl, B6.out.trans (B7.out.mono (by rw [HB.out]; exact B6.out.size))⟩
        · have hx0 : ((X.size : Int) == 0) = false := by rw [beq_eq_false_iff_ne]; omega
          have hx1 : 1 ≤ X.size := by omega
          have q1 : (0 : Int) ≤ 1 := by omega
          have q2 : (1 : Int) ≤ (X.size : Int) := by omega
          clear hX0
          go_wp2_with fail
          refine (copy_z (Y := X.extract 0 1) H6.out (D := X.size) rfl hx1 HS.out.symm (cut_take X 1)).mono ?_
          rintro e w7 ⟨rfl, b7⟩
          have B7 := Lib.hid (B6.out.trans b7)
          clear b7
          go_wp2_with (go_at_call 7; refine (known_any _).mono ?_; rintro e w8 ⟨rfl, b8⟩; have B8 := Lib.hid b8; clear b8)
          go_ret
          exact ⟨rfl, B7.out.trans (B8.out.mono (by rw [HB.out]; exact B7.out.size))⟩
      · obtain ⟨J, hJ⟩ : ∃ J, J = X.size - 32768 := ⟨_, rfl⟩
        obtain ⟨Y, hY⟩ : ∃ Y, X.extract J X.size = Y := ⟨_, rfl⟩
        have hYl : Y.data.toList = Wm.lastN 32768 X.data.toList := by rw [← hY, cut_drop]; unfold Wm.lastN; rw [size_len, hJ]
        have hYs : Y.data.toList.length = 32768 := by rw [hYl, Wm.lastN_length, size_len]; omega
        have H5 : Hid (holds B wr B Y.data.toList) := Lib.hid (by rw [hYl]; exact H3.out)
        have HS : Hid ((Y.data.toList.length : Int) = 32768) := Lib.hid (by rw [hYs]; rfl)
        have HSn := Lib.hid hYs
        have eB : IntKind.i64.wrap ((X.size : Int) - 32768) = (J : Int) := by rw [IntWalk.i64_in _ (by omega)]; omega
        have HEC : Hid ((X.size : Int) - 32768 = (J : Int)) := Lib.hid (by omega)
        have p0 : (0 : Int) ≤ (J : Int) := by omega
        have p1 : (J : Int) ≤ (X.size : Int) := by omega
        have p2 : (J : Int) + 1 ≤ (X.size : Int) := by omega
        have hZ : (X.extract J (J + 1)).data.toList = Y.data.toList.take 1 := by rw [← hY, cut_drop]; simp [ByteArray.extract, ByteArray.copySlice]
        have HZ := Lib.hid hZ
        clear hJ hYl hYs H3 hZ
        go_wp2_with fail
        go_region_held3 (fun w' => holds B w' B Y.data.toList ∧ Below B w w') (first | exact ⟨holds_drew H5.out, B3.out.drew⟩ | assumption | (apply keeps; assumption; assumption))
          (first | (go_at_call 19; refine (len_z (z := 32768) (And.left (by assumption)) HS.out.symm).mono ?_; rintro e w4 ⟨rfl, rfl⟩) | (go_at_call 15; refine (last_z (Y := Y) (And.left (by assumption)) rfl).mono ?_; rintro e w4 ⟨rfl, b4⟩))
        next w6 h6 =>
        have H6 := Lib.hid h6.1
        have B6 := Lib.hid h6.2
        clear h6 eB hY
        have eC := HEC.out
        go_wp2_with fail
        refine (no_z H6.out (by rw [HS.out]; rfl)).mono ?_
        rintro e w' ⟨rfl, rfl⟩
        go_wp2_with fail
        refine (len_z (z := 32768) H6.out HS.out.symm).mono ?_
        rintro e w' ⟨rfl, rfl⟩
        go_wp2_with fail
        refine (copy_z (Y := X.extract J (J + 1)) H6.out (D := 32768) rfl (by omega) HSn.out.symm HZ.out).mono ?_
        rintro e w7 ⟨rfl, b7⟩
        have B7 := Lib.hid (B6.out.trans b7)
        clear b7
        go_wp2_with (go_at_call 7; refine (known_any _).mono ?_; rintro e w8 ⟨rfl, b8⟩; have B8 := Lib.hid b8; clear b8)
        go_ret
        exact ⟨rfl, B7.out.trans (B8.out.mono (by rw [HB.out]; exact B7.out.size))⟩

theorem walk (s : ByteArray) (t : Int) (_ : s.size ≤ maxLen) (wt : (Lit.int .u8 t).wf = true) (w : World) :
    Calls Try.prog 5 #[.string s, .int .u8 t] w fun e w' => e = .returned (.bool true) ∧ Below w.heap.size w w' := by
  have ht : 0 ≤ t ∧ t ≤ 255 := by simpa [Lit.wf, IntKind.min, IntKind.max, IntKind.signed, IntKind.bits] using wt
  obtain ⟨t, rfl⟩ := Int.eq_ofNat_of_zero_le ht.1
  by_cases h0 : s.size = 0
  · have hz : ((s.size : Int) == 0) = true := by simp [h0]
    clear h0
    go_enter Try.func5, Try.ntmps5
    go_wp2_with (go_at_call 7; refine (known_any _).mono ?_; rintro e w' ⟨rfl, hb⟩)
    go_ret
    exact ⟨rfl, hb⟩
  · by_cases hs : 400 < s.size
    · have hz : ((s.size : Int) == 0) = false := by rw [beq_eq_false_iff_ne]; omega
      go_enter Try.func5, Try.ntmps5
      go_wp2_with (go_at_call 7; refine (known_any _).mono ?_; rintro e w' ⟨rfl, hb⟩)
      go_ret
      exact ⟨rfl, hb⟩
    · exact inner s t (by omega) (by omega) (by omega) w

set_option maxRecDepth 100000 in
theorem lifted (os : Os) (started : os.Started) (H : Type) (enc : TypeId × Value → H) :
    ReturnsInHanded {} Try.checked os 5 .any (Rows.windowHoldsSpec.pre6 enc Try.prog Try.f5 Rows.windowHoldsRow.domain false) (Rows.windowHoldsSpec.post enc Try.prog Try.f5 false true false false) := by
  refine returnsInHanded_of_change (C := Try.checked) own started (by kernel_rfl) Try.func5
    (ChangeSpec.witness6 (enc := enc) (C := Try.checked) false ⟨#[], #[.string ByteArray.empty, .int .u8 0], []⟩ 8 (by kernel_rfl) (by kernel_rfl) (by kernel_rfl) (by kernel_rfl)) ?_
  intro W base args ds gs before hval0 hW _ _
  have hval : ∀ (j : Nat) t v, Try.f5.params[j]? = some t → args[j]? = some v → Value.okWide Try.prog W .any base t v := hval0
  have hW' := hW
  obtain ⟨p, q, hA0, hV, rfl, hfz, hnd⟩ := hW
  have hA : DataW.TrodAll enc Try.prog W 0 (fun _ => true) true Try.f5.params.toList args.toList ds p := hA0
  rw [Try.params5] at hA hval
  obtain ⟨v0, vs0, d0, ds0, p0, q0, hargs, rfl, rfl, h0, r0⟩ := trodAll_cons hA
  obtain ⟨v1, vs1, d1, ds1, p1, q1, rfl, rfl, rfl, h1, r1⟩ := trodAll_cons r0
  obtain ⟨rfl, rfl, rfl⟩ := trodAll_nil r1
  obtain rfl : args = #[v0, v1] := by cases args; simp_all
  obtain ⟨rfl, rfl⟩ := trodVars_none hV
  obtain ⟨a0, rfl, rfl, rfl, w0⟩ := open_string Try.underlying9 (hval 0 9 v0 rfl rfl) h0
  obtain ⟨a1, rfl, rfl, rfl, w1⟩ := open_int Try.underlying5 (hval 1 5 v1 rfl rfl) h1
  refine (walk a0 a1 w0 w1 W).mono fun e W' ⟨he, hb⟩ => ?_
  subst he
  exact ⟨_, rfl, law_post (P := Try.prog) (f := Try.f5) laidOut (by kernel_rfl) (by kernel_rfl) Try.underlying4 rfl hW' rfl hb⟩

theorem proved : Rows.WindowHoldsSaid :=
  OpenClaim.holds_of_wide 5 Try.f5 rfl rfl rfl rfl rfl rfl rfl ⟨rfl, rfl, rfl, rfl, rfl⟩ rfl rfl rfl rfl rfl (by kernel_rfl) Try.func5 (by kernel_rfl)
    (of_decide_eq_true (by kernel_rfl)) (by unfold Func.isWrapper; first | (rw [if_pos (by decide +kernel)]; kernel_rfl) | (rw [if_neg (by decide +kernel)]; exact ⟨rfl, rfl⟩))
    (fun os started H enc _ => lifted os started H enc)
#print axioms proved
end Go.Proofs.Ytfdikleohoclfaa.windowHolds
