/-
  collimatorlaw02.CrcParts returns true for every string and every cut: a string's sum is its first part's, as it goes on by the second one.
  Conditions: none.
-/
import Derived.Test.YtfmpmjbgimeedaaCk
import Derived.Test.YtfmpmjbgimeedaaCc
import Derived.Test.YtfmpmjbgimeedaaLw
import Derived.Deep.RegionHeld3
namespace Go.Proofs.Ytfmpmjbgimeedaa.crcParts
open Go.ChangeShapes Go.WideShapes Go.ChangeAt Go.RowKit
open Go.ChangeMaps (open_string shut_string)
open Go.Proofs.Ytfmpmjbgimeedaa.Lw Go.Proofs.Ytfmpmjbgimeedaa.Cm Go.Proofs.Ytfmpmjbgimeedaa.Ce Go.Proofs.Ytfmpmjbgimeedaa.Ct Go.Proofs.Ytfmpmjbgimeedaa.Co Go.Proofs.Ytfmpmjbgimeedaa.Ck Go.Proofs.Ytfmpmjbgimeedaa.Cc

theorem own : ownKnob Try.prog.godebug = none := by kernel_rfl
theorem laidOut : laidOutB Try.prog = true := by kernel_rfl

theorem parts (s : ByteArray) (k : Nat) : con (con 0 (List.take k s.data.toList)) (s.extract k s.size).data.toList = con 0 s.data.toList := by
  rw [on_append]
  congr 1
  rw [ByteArray.data_extract, Array.toList_extract]
  have e : s.size = s.data.toList.length := by rw [Array.length_toList]; rfl
  simp only [List.extract_eq_take_drop]
  rw [e, show List.take (s.data.toList.length - k) (List.drop k s.data.toList) = List.drop k s.data.toList from List.take_of_length_le (by simp)]
  exact List.take_append_drop k s.data.toList

set_option maxHeartbeats 4000000 in
set_option maxRecDepth 100000 in
theorem walk (s : ByteArray) (c : Int) (_ : s.size ≤ maxLen) (w1 : (Lit.int .i64 c).wf = true) (w : World) :
    Calls Try.prog 5 #[.string s, .int .i64 c] w fun e w' => e = .returned (.bool true) ∧ Below w.heap.size w w' := by
  have hc : -9223372036854775808 ≤ c ∧ c ≤ 9223372036854775807 := by simpa [Lit.wf, IntKind.min, IntKind.max, IntKind.signed, IntKind.bits] using w1
  by_cases hs : 3000 < s.size
  · go_enter Try.func5, Try.ntmps5
    go_wp2_with (go_at_call 8; refine (known_any _).mono ?_; rintro e w' ⟨rfl, hb⟩)
    go_ret
    exact ⟨rfl, hb⟩
  · go_enter Try.func5, Try.ntmps5
    go_wp2_with fail
    refine (Count_any c (s.size + 1) hc (by omega) (by omega) _).mono ?_
    rintro e w' ⟨rfl, rfl⟩
    have hk : cnt c (s.size + 1) ≤ s.size := by have := cnt_lt c (m := s.size + 1) (by omega); omega
    generalize cnt c (s.size + 1) = k at *
    have cOn : Hid (∀ w, Calls Try.prog 9 #[.int .u32 (con 0 (List.take k s.data.toList)), .string (s.extract k s.size)] w fun e w' => e = .returned (.int .u32 (con 0 s.data.toList)) ∧ Below w.heap.size w w') := Lib.hid (fun w => by
      have h := On_any (con 0 (List.take k s.data.toList)) (on_lt _ _) (s.extract k s.size) w (by rw [ByteArray.size_extract]; omega)
      rw [parts s k] at h
      exact h)
    have hk0 : (0 : Int) ≤ (k : Int) := by omega
    have hk1 : (k : Int) ≤ (s.size : Int) := by omega
    go_wp2_with fail
    go_region_held3 (fun w' => Below w.heap.size w w') (first | exact (Below.refl _ _).drew | assumption | (apply grows; assumption; assumption))
      (first | (go_at_call 11; refine (Of_any _ _ ?_).mono ?_; (first | omega | (simp; omega)); rintro e w' ⟨rfl, hb⟩) | (go_at_call 9; refine (cOn.out _).mono ?_; rintro e w' ⟨rfl, hb⟩) | (go_at_call 8; refine (known_any _).mono ?_; rintro e w' ⟨rfl, hb⟩))
    have hB := (show Below w.heap.size w _ by assumption)
    go_wp2
    go_ret
    exact ⟨rfl, hB⟩

set_option maxRecDepth 100000 in
theorem lifted (os : Os) (started : os.Started) (H : Type) (enc : TypeId × Value → H) :
    ReturnsInHanded {} Try.checked os 5 .any (Rows.crcPartsSpec.pre6 enc Try.prog Try.f5 Rows.crcPartsRow.domain false) (Rows.crcPartsSpec.post enc Try.prog Try.f5 false true false false) := by
  refine returnsInHanded_of_change (C := Try.checked) own started (by kernel_rfl) Try.func5
    (ChangeSpec.witness6 (enc := enc) (C := Try.checked) false ⟨#[], #[.string ByteArray.empty, .int .i64 0], []⟩ 8 (by kernel_rfl) (by kernel_rfl) (by kernel_rfl) (by kernel_rfl)) ?_
  intro W base args ds gs before hval0 hW _ _
  have hval : ∀ (j : Nat) t v, Try.f5.params[j]? = some t → args[j]? = some v → Value.okWide Try.prog W .any base t v := hval0
  have hW' := hW
  obtain ⟨p, q, hA0, hV, rfl, hfz, hnd⟩ := hW
  have hA : DataW.TrodAll enc Try.prog W 0 (fun _ => true) true Try.f5.params.toList args.toList ds p := hA0
  rw [Try.params5] at hA hval
  obtain ⟨v0, vs0, d0, ds0, p0, q0, hargs, rfl, rfl, h0, r0⟩ := trodAll_cons hA
  obtain ⟨v1, vs1, d1, ds1, p1, q1, rfl, rfl, rfl, h1, r1⟩ := trodAll_cons r0
  obtain ⟨rfl, rfl, rfl⟩ := trodAll_nil r1
  obtain rfl : args = #[v0, v1] := by cases args; simp_all
  obtain ⟨rfl, rfl⟩ := trodVars_none hV
  obtain ⟨a0, rfl, rfl, rfl, w0⟩ := open_string Try.underlying9 (hval 0 9 v0 rfl rfl) h0
  obtain ⟨a1, rfl, rfl, rfl, w1⟩ := open_int Try.underlying3 (hval 1 3 v1 rfl rfl) h1
  refine (walk a0 a1 w0 w1 W).mono fun e W' ⟨he, hb⟩ => ?_
  subst he
  exact ⟨_, rfl, law_post (P := Try.prog) (f := Try.f5) laidOut (by kernel_rfl) (by kernel_rfl) Try.underlying4 rfl hW' rfl hb⟩

theorem proved : Rows.CrcPartsSaid :=
  OpenClaim.holds_of_wide 5 Try.f5 rfl rfl rfl rfl rfl rfl rfl ⟨rfl, rfl, rfl, rfl, rfl⟩ rfl rfl rfl rfl rfl (by kernel_rfl) Try.func5 (by kernel_rfl)
    (of_decide_eq_true (by kernel_rfl)) (by unfold Func.isWrapper; first | (rw [if_pos (by decide +kernel)]; kernel_rfl) | (rw [if_neg (by decide +kernel)]; exact ⟨rfl, rfl⟩))
    (fun os started H enc _ => lifted os started H enc)
#print axioms proved
end Go.Proofs.Ytfmpmjbgimeedaa.crcParts
