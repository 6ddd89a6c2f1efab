/-
  collimatorlaw01.VintBack returns true for every Place, and its argument reads afterwards as it read before: a number that was laid down, as a varint and as a fixed number, is read at its place, whatever stands about it.
  Conditions: none.
-/
import Derived.Test.YtacklgianijbpaaVk
import Derived.Test.YtacklgianijbpaaVr
import Derived.ProofKit
import Derived.OpenShut
import Derived.ShutString
import Derived.Lib.SmallJoins
import Derived.Test.YtacklgianijbpaaLw
namespace Go.Proofs.Ytacklgianijbpaa.vintBack
open Go.ChangeShapes Go.WideShapes Go.ChangeAt Go.RowKit Go.Joins
open Go.ChangeMaps (open_string shut_string)
open Go.Proofs.Ytacklgianijbpaa.Lw Go.Proofs.Ytacklgianijbpaa.Vm Go.Proofs.Ytacklgianijbpaa.Vo Go.Proofs.Ytacklgianijbpaa.Vw Go.Proofs.Ytacklgianijbpaa.Vb Go.Proofs.Ytacklgianijbpaa.Vg Go.Proofs.Ytacklgianijbpaa.Vf Go.Proofs.Ytacklgianijbpaa.Vn Go.Proofs.Ytacklgianijbpaa.Vk Go.Proofs.Ytacklgianijbpaa.Vt Go.Proofs.Ytacklgianijbpaa.Vq Go.Proofs.Ytacklgianijbpaa.Vr

theorem own : ownKnob Try.prog.godebug = none := by kernel_rfl

/-- The box that holds the argument. -/
def box (A : ByteArray) (N W : Int) (C : ByteArray) : Obj := .cells #[.string A, .int .i64 N, .int .i64 W, .string C] 37

theorem box_cells {w w1 : World} {A : ByteArray} {N W : Int} {C : ByteArray} (h : Below (w.heap.size + 1) (w.alloc (box A N W C)) w1) :
    w1.cell? ⟨w.heap.size, 0, none⟩ = some (.string A) ∧ w1.cell? ⟨w.heap.size, 1, none⟩ = some (.int .i64 N) ∧ w1.cell? ⟨w.heap.size, 2, none⟩ = some (.int .i64 W) ∧ w1.cell? ⟨w.heap.size, 3, none⟩ = some (.string C) := by
  have hc : ∀ i, w1.cell? ⟨w.heap.size, i, none⟩ = (w.alloc (box A N W C)).cell? ⟨w.heap.size, i, none⟩ := fun i => h.cell (p := ⟨w.heap.size, i, none⟩) (by simp)
  refine ⟨?_, ?_, ?_, ?_⟩ <;> (rw [hc]; simp [box])

theorem drop_mid (A C : ByteArray) (L : List UInt8) : (A ++ ⟨L.toArray⟩ ++ C).data.toList.drop A.size = L ++ C.data.toList := by
  have : A.data.toList.length = A.size := by rw [Array.length_toList]; rfl
  simp only [ByteArray.data_append, Array.toList_append, List.append_assoc]
  rw [← this, List.drop_left]
theorem fixR_inv {n : Nat} {W : Int} (h : (fixR n W).2 = 0) : ∃ V : Nat, W = (V : Int) ∧ wid (V : Int) = true ∧ fixR n V = (le V n, 0) ∧ n / 256 ^ V = 0 := by
  by_cases hW : wid W = true
  · have hb := wid_bounds hW
    obtain ⟨V, rfl⟩ := Int.eq_ofNat_of_zero_le (show 0 ≤ W by omega)
    by_cases hx : n / 256 ^ V = 0
    · exact ⟨V, rfl, hW, by simp [fixR, hW, hx], hx⟩
    · simp [fixR, hW, hx] at h
  · simp [fixR, show wid W = false by simpa using hW] at h

theorem walk_neg (A : ByteArray) (N W : Int) (C : ByteArray) (hA : ¬ 5000 < A.size) (hC : ¬ 5000 < C.size) (h0 : N < 0) (w : World) :
    Calls Try.prog 5 #[.agg #[.string A, .int .i64 N, .int .i64 W, .string C]] w fun e w' => e = .returned (.bool true) ∧ Below w.heap.size w w' := by
  have HQ := Lib.hid (show putR N = ([], 1) by simp [putR, h0])
  have HF := Lib.hid (show fixR N W = ([], 1) by simp [fixR, h0])
  have hd : decide (0 ≤ N) = false := by simp; omega
  go_enter Try.func5, Try.ntmps5
  go_wp2_with fail
  refine (Put_any _ _ (by omega)).mono ?_
  rintro e w1 ⟨rfl, b1⟩
  rw [HQ.out]
  obtain ⟨c0, c1, c2, c3⟩ := box_cells (A := A) (N := N) (W := W) (C := C) (by simpa [box] using b1)
  go_wp2_with fail
  refine (Fixed_any _ _ _ (by omega)).mono ?_
  rintro e w2 ⟨rfl, b2⟩
  rw [HF.out]
  clear c0 c1 c2 c3
  have b3 := grows b1 b2
  obtain ⟨c0, c1, c2, c3⟩ := box_cells (A := A) (N := N) (W := W) (C := C) (by simpa [box] using b3)
  go_wp2_with (go_at_call 12; refine (known_any _).mono ?_; rintro e w' ⟨rfl, hb⟩)
  go_ret
  exact ⟨rfl, grows (grows ((Below.refl _ _).alloc (Nat.le_refl _) _) b3) hb⟩

set_option maxHeartbeats 1000000 in
theorem walk_pos (A : ByteArray) (n : Nat) (W : Int) (C : ByteArray) (hA : ¬ 5000 < A.size) (hC : ¬ 5000 < C.size) (hn : n ≤ 9223372036854775807) (w : World) :
    Calls Try.prog 5 #[.agg #[.string A, .int .i64 n, .int .i64 W, .string C]] w fun e w' => e = .returned (.bool true) ∧ Below w.heap.size w w' := by
  have hq : putR (n : Int) = (put n, 0) := by unfold putR; rw [if_neg (by omega)]; rfl
  have hl := put_length9 (n := n) (by omega)
  have hg : getR (A ++ ⟨(put n).toArray⟩ ++ C) (A.size : Int) = ((n : Int), (A.size : Int) + ((put n).length : Int), 0) :=
    getR_at (r := C.data.toList) (by rw [drop_mid]) (by omega)
  have hsz : (A ++ ⟨(put n).toArray⟩ ++ C).size ≤ 9223372036854775807 := by rw [ByteArray.size_append, ByteArray.size_append, size_of_list (put n)]; omega
  generalize put n = L at *
  have HS := Lib.hid hsz
  clear hsz
  have HQ := Lib.hid hq
  have HG := Lib.hid hg
  clear hq hg
  go_enter Try.func5, Try.ntmps5
  go_wp2_with fail
  refine (Put_any _ _ (by omega)).mono ?_
  rintro e w1 ⟨rfl, b1⟩
  rw [HQ.out]
  obtain ⟨c0, c1, c2, c3⟩ := box_cells (A := A) (N := n) (W := W) (C := C) (by simpa [box] using b1)
  go_wp2_with fail
  refine (Get_any _ _ _ HS.out (by omega)).mono ?_
  rintro e w' ⟨rfl, rfl⟩
  rw [HG.out]
  go_wp2_with fail
  refine (Fixed_any _ _ _ (by omega)).mono ?_
  rintro e w2 ⟨rfl, b2⟩
  clear c0 c1 c2 c3
  have b3 := grows b1 b2
  obtain ⟨c0, c1, c2, c3⟩ := box_cells (A := A) (N := n) (W := W) (C := C) (by simpa [box] using b3)
  by_cases hf : (fixR (n : Int) W).2 = 0
  · obtain ⟨V, rfl, hV, hF, hX⟩ := fixR_inv hf
    have hm : numR (A ++ ⟨(le V n).toArray⟩ ++ C) (A.size : Int) (V : Int) = ((n : Int), 0) := numR_at (r := C.data.toList) hV (by rw [drop_mid]) (by omega) hX
    have hV8 := wid_bounds hV
    have hsz : (A ++ ⟨(le V n).toArray⟩ ++ C).size ≤ 9223372036854775807 := by rw [ByteArray.size_append, ByteArray.size_append, size_of_list (le V n), le_length]; omega
    have hml : (((le V n).length : Int) != (V : Int)) = false := by rw [le_length]; simp
    have hml' : ((((⟨(le V n).toArray⟩ : ByteArray).size) : Int) != (V : Int)) = false := by rw [size_of_list, le_length]; simp
    have hMl : (le V n).length ≤ 8 := by rw [le_length]; omega
    rw [hF]
    generalize le V n = M at *
    have HN := Lib.hid hm
    have HS2 := Lib.hid hsz
    clear hf hF hm hX hV hsz
    go_wp2_with fail
    refine (Number_any _ (A.size : Int) (V : Int) _ HS2.out (by omega)).mono ?_
    rintro e w' ⟨rfl, rfl⟩
    rw [HN.out]
    go_wp2_with (go_at_call 12; refine (known_any _).mono ?_; rintro e w' ⟨rfl, hb⟩)
    go_ret
    exact ⟨rfl, grows (grows ((Below.refl _ _).alloc (Nat.le_refl _) _) b3) hb⟩
  · have hne : ((fixR (n : Int) W).2 == 0) = false := by simpa using hf
    clear hf
    generalize fixR (n : Int) W = F at *
    go_wp2_with (go_at_call 12; refine (known_any _).mono ?_; rintro e w' ⟨rfl, hb⟩)
    go_ret
    exact ⟨rfl, grows (grows ((Below.refl _ _).alloc (Nat.le_refl _) _) b3) hb⟩

theorem walk (A : ByteArray) (N W : Int) (C : ByteArray) (w0 : A.size ≤ maxLen) (w1 : (Lit.int .i64 N).wf = true) (w3 : C.size ≤ maxLen) (w : World) :
    Calls Try.prog 5 #[.agg #[.string A, .int .i64 N, .int .i64 W, .string C]] w fun e w' => e = .returned (.bool true) ∧ Below w.heap.size w w' := by
  have hN : -9223372036854775808 ≤ N ∧ N ≤ 9223372036854775807 := by simpa [Lit.wf, IntKind.min, IntKind.max, IntKind.signed, IntKind.bits] using w1
  unfold maxLen at w0 w3
  by_cases hA : 5000 < A.size
  · go_enter Try.func5, Try.ntmps5
    go_wp2_with (go_at_call 12; refine (known_any _).mono ?_; rintro e w' ⟨rfl, hb⟩)
    go_ret
    exact ⟨rfl, grows ((Below.refl _ _).alloc (Nat.le_refl _) _) hb⟩
  · by_cases hC : 5000 < C.size
    · go_enter Try.func5, Try.ntmps5
      go_wp2_with (go_at_call 12; refine (known_any _).mono ?_; rintro e w' ⟨rfl, hb⟩)
      go_ret
      exact ⟨rfl, grows ((Below.refl _ _).alloc (Nat.le_refl _) _) hb⟩
    · by_cases h0 : N < 0
      · exact walk_neg A N W C hA hC h0 w
      · obtain ⟨n, rfl⟩ := Int.eq_ofNat_of_zero_le (show 0 ≤ N by omega)
        exact walk_pos A n W C hA hC (by omega) w

theorem laidOut : laidOutB Try.prog = true := by kernel_rfl
theorem cellsPlace : Try.prog.cellsOf 37 = 4 := by kernel_rfl

set_option maxRecDepth 100000 in
theorem lifted (os : Os) (started : os.Started) (H : Type) (enc : TypeId × Value → H) :
    ReturnsInHanded {} Try.checked os 5 .any (Rows.vintBackSpec.pre6 enc Try.prog Try.f5 Rows.vintBackRow.domain false) (Rows.vintBackSpec.post enc Try.prog Try.f5 false true false false) := by
  refine returnsInHanded_of_change (C := Try.checked) own started (by kernel_rfl) Try.func5
    (ChangeSpec.witness6 (enc := enc) (C := Try.checked) false ⟨#[], #[.agg #[.string ByteArray.empty, .int .i64 0, .int .i64 0, .string ByteArray.empty]], []⟩ 8 (by kernel_rfl) (by kernel_rfl) (by kernel_rfl) (by kernel_rfl)) ?_
  intro W base args ds gs before hval0 hW _ _
  have hval : ∀ (j : Nat) t v, Try.f5.params[j]? = some t → args[j]? = some v → Value.okWide Try.prog W .any base t v := hval0
  have hW' := hW
  obtain ⟨p, q, hA0, hV, rfl, hfz, hnd⟩ := hW
  have hA : DataW.TrodAll enc Try.prog W 0 (fun _ => true) true Try.f5.params.toList args.toList ds p := hA0
  rw [Try.params5] at hA hval
  obtain ⟨v0, vs0, d0, ds0, p0, q0, hargs, rfl, rfl, h0, r0⟩ := trodAll_cons hA
  obtain ⟨rfl, rfl, rfl⟩ := trodAll_nil r0
  obtain rfl : args = #[v0] := by cases args; simp_all
  obtain ⟨rfl, rfl⟩ := trodVars_none hV
  obtain ⟨c0, c1, c2, c3, y0, y1, y2, y3, m, rfl, rfl, rfl, hy0, hy1, hy2, hy3⟩ := open_agg4 Try.underlying37 (by kernel_rfl) cellsPlace (hval 0 37 v0 rfl rfl) h0
  obtain ⟨A, e0, rfl, w0⟩ := DataW.trod_string Try.underlying9 hy0
  obtain ⟨N, e1, rfl, w1⟩ := DataW.trod_int Try.underlying3 hy1
  obtain ⟨V, e2, rfl, w2⟩ := DataW.trod_int Try.underlying3 hy2
  obtain ⟨C, e3, rfl, w3⟩ := DataW.trod_string Try.underlying9 hy3
  simp only [List.cons.injEq, and_true] at e0 e1 e2 e3
  subst e0 e1 e2 e3
  refine (walk A N V C w0 w1 w3 W).mono fun e W' ⟨he, hb⟩ => ?_
  subst he
  exact ⟨_, rfl, law_post (P := Try.prog) (f := Try.f5) laidOut (by kernel_rfl) (by kernel_rfl) Try.underlying4 rfl hW' rfl hb⟩

theorem proved : Rows.VintBackSaid :=
  OpenClaim.holds_of_wide 5 Try.f5 rfl rfl rfl rfl rfl rfl rfl ⟨rfl, rfl, rfl, rfl, rfl⟩ rfl rfl rfl rfl rfl (by kernel_rfl) Try.func5 (by kernel_rfl)
    (of_decide_eq_true (by kernel_rfl)) (by unfold Func.isWrapper; first | (rw [if_pos (by decide +kernel)]; kernel_rfl) | (rw [if_neg (by decide +kernel)]; exact ⟨rfl, rfl⟩))
    (fun os started H enc _ => lifted os started H enc)
#print axioms proved
end Go.Proofs.Ytacklgianijbpaa.vintBack
