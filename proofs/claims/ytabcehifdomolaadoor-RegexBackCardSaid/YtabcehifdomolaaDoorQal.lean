/-
  The reference's End.
  The reference's right: has a node what its kind asks.
  The program's End.
  The program's bounded; two nodes compared.
  The program's right: has a node what its kind asks.
  The reference's Check.
  The program's Check.
  The reference's Same of equal lists.
  The program's meaning: the set of an escape.
  The program's bounds: the numbers of a repetition.
  Conditions: as each theorem says.
-/
import Derived.Test.YtabcehifdomolaaDoorQaj
import Derived.Deep.DeepCutAuto
import Derived.Test.YtabcehifdomolaaDoorQai
import Derived.Laws.StructEq
import Derived.BigQuiet
import Derived.Deep.QuietTactic
import Derived.Test.YtabcehifdomolaaDoorQak
import Derived.Test.YtabcehifdomolaaDoorQbb
namespace Go.Proofs.YtabcehifdomolaaDoor.Re
open Go.RowKit Go.Proofs.YtabcehifdomolaaDoor.Vm Go.Proofs.YtabcehifdomolaaDoor.Vo Go.Proofs.YtabcehifdomolaaDoor.Bw Go.Proofs.YtabcehifdomolaaDoor.Na Go.Proofs.YtabcehifdomolaaDoor.Tm Go.Proofs.YtabcehifdomolaaDoor.Ta Go.Proofs.YtabcehifdomolaaDoor.Tb Go.Proofs.YtabcehifdomolaaDoor.Tf Go.Proofs.YtabcehifdomolaaDoor.Rm Go.Proofs.YtabcehifdomolaaDoor.Rv Go.Proofs.YtabcehifdomolaaDoor.Ra

theorem drop_at {α : Type} {l : List α} {i : Nat} {x : α} (h : l[i]? = some x) : l.drop i = x :: l.drop (i + 1) := by
  obtain ⟨hi, e⟩ := List.getElem?_eq_some_iff.1 h
  rw [List.drop_eq_getElem_cons hi, e]
set_option maxHeartbeats 2000000 in
set_option maxRecDepth 100000 in
theorem rEnd_any {A : Option Addr} {cap : Nat} {l : List Nd} (hl : l.length ≤ 1000000) (i : Int) (hi : i ≤ 9223372036854775807) {w : World} (H : Hid (nds w A l)) :
    Calls Tryd.prog 13 #[.slice A l.length cap, .int .i64 i] w fun e w' => e = .returned (.int .i64 (endI l i)) ∧ w = w' := by
  obtain ⟨N, hN⟩ : ∃ N, N = l.length := ⟨_, rfl⟩
  obtain ⟨E, hE⟩ : ∃ E, E = endI l i := ⟨_, rfl⟩
  rw [← hN, ← hE]
  rw [← hN] at hl
  have HN := Lib.hid hN
  have HE := Lib.hid hE
  clear hN hE
  by_cases h0 : i < 0
  · have he : Hid (E = -1) := Lib.hid (by rw [HE.out]; unfold endI; rw [if_pos h0])
    go_enter Tryd.func13, Tryd.ntmps13
    go_wp2
    go_ret
    exact ⟨ret_i64 he.out.symm, rfl⟩
  · obtain ⟨n, rfl⟩ := Int.eq_ofNat_of_zero_le (show 0 ≤ i by omega)
    have HQ : Hid (E = endA (n : Int) (endW N (l.drop n) 1)) := Lib.hid (by rw [HE.out, HN.out]; unfold endI; rw [if_neg h0, Int.toNat_natCast])
    clear h0
    have h0' : ¬ (n : Int) < 0 := by omega
    go_enter Tryd.func13, Tryd.ntmps13
    go_wp2
    go_loopw [5, 6] (fun s5 s6 wr => ∃ (m v : Nat), s5 = .int .i64 (v : Int) ∧ s6 = .int .i64 ((n + m : Nat) : Int) ∧ Hid (m = 0 ∨ n + m ≤ N) ∧ Hid (1 ≤ v ∧ v ≤ 1 + m * N) ∧ Hid (endW N (l.drop n) 1 = (endW N (l.drop (n + m)) v).map (· + m)) ∧ wr = w) (fun _ s6 _ => N - (intOf s6).toNat)
    case atStart => exact ⟨0, 1, rfl, rfl, Lib.hid (.inl rfl), Lib.hid (by omega), Lib.hid (by simp), rfl⟩
    case round =>
      obtain ⟨m, v, rfl, rfl, HM, HV, HEQ, rfl⟩ := hrel
      by_cases hk : n + m < N
      · obtain ⟨x, hx⟩ : ∃ x, l[n + m]? = some x := ⟨_, List.getElem?_eq_getElem (by rw [← HN.out]; exact hk)⟩
        obtain ⟨b, off, rfl, hb, hp⟩ := H.out _ x hx
        have c1 := hp.c1
        have hin := hp.ikn
        have HD := Lib.hid (drop_at hx)
        obtain ⟨k, hkk⟩ : ∃ k, k = n + m := ⟨_, rfl⟩
        obtain ⟨xn, hxn⟩ : ∃ xn, xn = x.n := ⟨_, rfl⟩
        rw [← hkk] at c1 hk HD HM HEQ
        rw [← hxn] at c1 hin
        have HXN := Lib.hid hxn
        have HKK := Lib.hid hkk
        rw [← hkk]
        unfold in64 at hin
        have hk' : (k : Int) < (N : Int) := by omega
        have hk0 : (0 : Int) ≤ (k : Int) := by omega
        clear hp hx hkk hxn
        have no : xn < 0 ∨ (N : Int) < xn → Hid (E = -1) := fun hb => Lib.hid (by
          rw [HQ.out, HEQ.out, HD.out, endW, ← HXN.out, if_pos hb]; rfl)
        rcases (show xn < 0 ∨ (¬ xn < 0 ∧ (N : Int) < xn) ∨ (¬ xn < 0 ∧ ¬ (N : Int) < xn) by omega) with h1 | ⟨h1, h2⟩ | ⟨h1, h2⟩
        · have NO := no (.inl h1)
          clear no
          go_wp2
          go_ret
          exact ⟨ret_i64 NO.out.symm, rfl⟩
        · have NO := no (.inr h2)
          clear no
          go_wp2
          go_ret
          exact ⟨ret_i64 NO.out.symm, rfl⟩
        · obtain ⟨c, rfl⟩ := Int.eq_ofNat_of_zero_le (show 0 ≤ xn by omega)
          obtain ⟨u, hu⟩ : ∃ u, u = v - 1 + c := ⟨_, rfl⟩
          have hv := HV.out
          have hbig : m * N ≤ 1000000000000 := Nat.le_trans (Nat.mul_le_mul (show m ≤ 1000000 by have := HKK.out; omega) hl) (by decide)
          obtain ⟨v1, hv1⟩ : ∃ v1, v1 = v - 1 := ⟨_, rfl⟩
          have HSt : Hid (endW N (l.drop n) 1 = if u = 0 then some (1 + m) else (endW N (l.drop (k + 1)) u).map (· + (m + 1))) := Lib.hid (by
            rw [HEQ.out, HD.out, endW, ← HXN.out, if_neg (by omega), Int.toNat_natCast, ← hu]
            split
            · rfl
            · rw [map_comm, Nat.add_comm 1 m])
          have HU : Hid (u ≤ 1 + (m + 1) * N) := Lib.hid (by rw [Nat.add_mul]; omega)
          have hw1 : wrap64 ((v : Int) - 1) = (v1 : Int) := by rw [wrap64_in (by omega) (by omega)]; omega
          have hw2 : wrap64 ((v1 : Int) + (c : Int)) = (u : Int) := by rw [wrap64_in (by omega) (by omega)]; omega
          clear no hu hv hbig hv1
          by_cases hz : u = 0
          · have hz' : ((u : Int) == 0) = true := by simp; exact hz
            have HR : Hid (E = ((k : Int) + 1)) := Lib.hid (by
              rw [HQ.out, HSt.out, if_pos hz]
              show (n : Int) + ((1 + m : Nat) : Int) = _
              have := HKK.out
              omega)
            clear hz
            go_wp2
            go_ret
            exact ⟨ret_i64 HR.out.symm, rfl⟩
          · have hz' : ((u : Int) == 0) = false := by simp; exact hz
            have HR : Hid (endW N (l.drop n) 1 = (endW N (l.drop (n + (m + 1))) u).map (· + (m + 1))) := Lib.hid (by
              rw [HSt.out, if_neg hz, HKK.out, Nat.add_assoc])
            have HZ := Lib.hid hz
            clear hz
            go_wp2
            go_roundw
            case rel => exact ⟨m + 1, u, congrArg (Value.int IntKind.i64) hw2, congrArg (Value.int IntKind.i64) (by have := HKK.out; omega), Lib.hid (.inr (by have := HKK.out; omega)), Lib.hid ⟨by have := HZ.out; omega, HU.out⟩, HR, trivial⟩
            case measure => have := HKK.out; simp [intOf]; omega
      · have HR : Hid (E = -1) := Lib.hid (by
          rw [HQ.out, HEQ.out, List.drop_eq_nil_of_le (by rw [← HN.out]; omega)]; rfl)
        have hk' : ¬ ((n + m : Nat) : Int) < (N : Int) := by omega
        go_wp2
        go_ret
        exact ⟨ret_i64 HR.out.symm, rfl⟩
end Go.Proofs.YtabcehifdomolaaDoor.Re
namespace Go.Proofs.YtabcehifdomolaaDoor.Rf
open Go.RowKit Go.Proofs.YtabcehifdomolaaDoor.Vm Go.Proofs.YtabcehifdomolaaDoor.Vo Go.Proofs.YtabcehifdomolaaDoor.Bw Go.Proofs.YtabcehifdomolaaDoor.Na Go.Proofs.YtabcehifdomolaaDoor.Tm Go.Proofs.YtabcehifdomolaaDoor.Ta Go.Proofs.YtabcehifdomolaaDoor.Tb Go.Proofs.YtabcehifdomolaaDoor.Tf Go.Proofs.YtabcehifdomolaaDoor.Tj Go.Proofs.YtabcehifdomolaaDoor.Rm Go.Proofs.YtabcehifdomolaaDoor.Rv Go.Proofs.YtabcehifdomolaaDoor.Ra

/-- right, the set told as a truth. -/
def rgb (k n lo hi : Int) (z : Bool) : Bool :=
  decide ((k = 1 ∧ n = 0 ∧ z = false ∧ lo = 0 ∧ hi = 0) ∨ (k = 2 ∧ n = 0 ∧ z = true ∧ lo = 0 ∧ hi = 0) ∨ ((k = 3 ∨ k = 4) ∧ 2 ≤ n ∧ z = true ∧ lo = 0 ∧ hi = 0)
    ∨ ((k = 5 ∨ k = 6 ∨ k = 7) ∧ n = 1 ∧ z = true ∧ lo = 0 ∧ hi = 0) ∨ (k = 8 ∧ n = 1 ∧ z = true ∧ 0 ≤ lo ∧ lo ≤ 30 ∧ (hi = -1 ∨ (lo ≤ hi ∧ hi ≤ 30))))
theorem retB {a b : Bool} (h : a = b) : Ending.returned (.bool a) = .returned (.bool b) := by rw [h]
instance (x : Nd) : Decidable (right x) := by unfold right; infer_instance
set_option maxHeartbeats 4000000 in
set_option maxRecDepth 100000 in
theorem rright_any (k n lo hi : Int) (x0 x1 x2 x3 : Nat) {w : World} :
    Calls Tryd.prog 19 #[.agg #[.int .i64 k, .int .i64 n, .int .u64 (x0 : Int), .int .u64 (x1 : Int), .int .u64 (x2 : Int), .int .u64 (x3 : Int), .int .i64 lo, .int .i64 hi]] w fun e w' => e = .returned (.bool (decide (right ⟨k, n, [x0, x1, x2, x3], lo, hi⟩))) ∧ Below w.heap.size w w' := by
  obtain ⟨w1, hw1⟩ : ∃ w1, w1 = w.alloc (.cells #[.int .i64 k, .int .i64 n, .int .u64 (x0 : Int), .int .u64 (x1 : Int), .int .u64 (x2 : Int), .int .u64 (x3 : Int), .int .i64 lo, .int .i64 hi] 38) := ⟨_, rfl⟩
  have B1 : Hid (Below w.heap.size w w1) := Lib.hid (by rw [hw1]; exact below_alloc _ _)
  have K1 : Hid (Blk w1 w.heap.size 38 #[.int .i64 k, .int .i64 n, .int .u64 (x0 : Int), .int .u64 (x1 : Int), .int .u64 (x2 : Int), .int .u64 (x3 : Int), .int .i64 lo, .int .i64 hi]) := Lib.hid (by rw [hw1]; exact Blk.fresh _ _ _)
  have d0 : w1.cell? ⟨w.heap.size, 0, none⟩ = some (.int .i64 k) := K1.out.cell 0
  have d1 : w1.cell? ⟨w.heap.size, 1, none⟩ = some (.int .i64 n) := K1.out.cell 1
  have d2 : w1.cell? ⟨w.heap.size, 2, none⟩ = some (.int .u64 (x0 : Int)) := K1.out.cell 2
  have d3 : w1.cell? ⟨w.heap.size, 3, none⟩ = some (.int .u64 (x1 : Int)) := K1.out.cell 3
  have d4 : w1.cell? ⟨w.heap.size, 4, none⟩ = some (.int .u64 (x2 : Int)) := K1.out.cell 4
  have d5 : w1.cell? ⟨w.heap.size, 5, none⟩ = some (.int .u64 (x3 : Int)) := K1.out.cell 5
  have d6 : w1.cell? ⟨w.heap.size, 6, none⟩ = some (.int .i64 lo) := K1.out.cell 6
  have d7 : w1.cell? ⟨w.heap.size, 7, none⟩ = some (.int .i64 hi) := K1.out.cell 7
  obtain ⟨zb, hzb⟩ : ∃ zb : Bool, zb = decide (([x0, x1, x2, x3] : List Nat) = zero) := ⟨_, rfl⟩
  have heq : ∀ w, (Op.equalIn 10000 36 (.agg #[.int .u64 (x0 : Int), .int .u64 (x1 : Int), .int .u64 (x2 : Int), .int .u64 (x3 : Int)]) (.agg #[.int .u64 0, .int .u64 0, .int .u64 0, .int .u64 0])).run Tryd.prog w = .ok zb w := fun w => by
    rw [eq_four, hzb]
    congr 1
    simp [zero]
    by_cases h0 : x0 = 0 <;> by_cases h1 : x1 = 0 <;> by_cases h2 : x2 = 0 <;> by_cases h3 : x3 = 0 <;> simp [h0, h1, h2, h3]
  obtain ⟨R, hR⟩ : ∃ R, R = decide (right ⟨k, n, [x0, x1, x2, x3], lo, hi⟩) := ⟨_, rfl⟩
  rw [← hR]
  have HRG : Hid (R = rgb k n lo hi zb) := Lib.hid (by
    rw [hR, hzb]
    unfold right rgb
    by_cases hz : ([x0, x1, x2, x3] : List Nat) = zero
    · simp [hz]
    · simp [hz])
  clear hzb hR
  rcases (show lo ≠ 0 ∨ (lo = 0 ∧ hi ≠ 0) ∨ (lo = 0 ∧ hi = 0) by omega) with g | ⟨g, g'⟩ | ⟨g, g'⟩
  · have q1 : (lo == 0) = false := by simp [g]
    go_enter Tryd.func19, Tryd.ntmps19
    go_upto_region 1 with fail
    rw [← hw1]
    clear hw1
    go_upto_region 3 with fail
    rcases (show k = 1 ∨ k = 2 ∨ k = 3 ∨ k = 4 ∨ k = 5 ∨ k = 6 ∨ k = 7 ∨ k = 8 ∨ (k ≠ 1 ∧ k ≠ 2 ∧ k ≠ 3 ∧ k ≠ 4 ∧ k ≠ 5 ∧ k ≠ 6 ∧ k ≠ 7 ∧ k ≠ 8) by omega) with e | e | e | e | e | e | e | e | ⟨e1, e2, e3, e4, e5, e6, e7, e8⟩
    · subst e
      by_cases hc2 : ¬ n = 0
      · have f2 : (n == 0) = false := by simp; omega
        have HRR : Hid (R = false) := Lib.hid (by rw [HRG.out]; first | (simp [rgb, *]; done) | (simp [rgb, *]; omega) | (simp [rgb]; omega))
        go_wp2
        go_ret
        exact ⟨retB HRR.out.symm, B1.out⟩
      · have f2 : (n == 0) = true := by simp; omega
        cases zb with
        | true =>
          have HRR : Hid (R = false) := Lib.hid (by rw [HRG.out]; first | (simp [rgb, *]; done) | (simp [rgb, *]; omega) | (simp [rgb]; omega))
          go_wp2
          go_ret
          exact ⟨retB HRR.out.symm, B1.out⟩
        | false =>
          have HRR : Hid (R = false) := Lib.hid (by rw [HRG.out]; first | (simp [rgb, *]; done) | (simp [rgb, *]; omega) | (simp [rgb]; omega))
          go_wp2
          go_ret
          exact ⟨retB HRR.out.symm, B1.out⟩
    · subst e
      by_cases hc2 : ¬ n = 0
      · have f2 : (n == 0) = false := by simp; omega
        have HRR : Hid (R = false) := Lib.hid (by rw [HRG.out]; first | (simp [rgb, *]; done) | (simp [rgb, *]; omega) | (simp [rgb]; omega))
        go_wp2
        go_ret
        exact ⟨retB HRR.out.symm, B1.out⟩
      · have f2 : (n == 0) = true := by simp; omega
        cases zb with
        | true =>
          have HRR : Hid (R = false) := Lib.hid (by rw [HRG.out]; first | (simp [rgb, *]; done) | (simp [rgb, *]; omega) | (simp [rgb]; omega))
          go_wp2
          go_ret
          exact ⟨retB HRR.out.symm, B1.out⟩
        | false =>
          have HRR : Hid (R = false) := Lib.hid (by rw [HRG.out]; first | (simp [rgb, *]; done) | (simp [rgb, *]; omega) | (simp [rgb]; omega))
          go_wp2
          go_ret
          exact ⟨retB HRR.out.symm, B1.out⟩
    · subst e
      by_cases hc2 : n < 2
      · have f2 : ¬ (2 : Int) ≤ n := by omega
        have HRR : Hid (R = false) := Lib.hid (by rw [HRG.out]; first | (simp [rgb, *]; done) | (simp [rgb, *]; omega) | (simp [rgb]; omega))
        go_wp2
        go_ret
        exact ⟨retB HRR.out.symm, B1.out⟩
      · have f2 : (2 : Int) ≤ n := by omega
        cases zb with
        | true =>
          have HRR : Hid (R = false) := Lib.hid (by rw [HRG.out]; first | (simp [rgb, *]; done) | (simp [rgb, *]; omega) | (simp [rgb]; omega))
          go_wp2
          go_ret
          exact ⟨retB HRR.out.symm, B1.out⟩
        | false =>
          have HRR : Hid (R = false) := Lib.hid (by rw [HRG.out]; first | (simp [rgb, *]; done) | (simp [rgb, *]; omega) | (simp [rgb]; omega))
          go_wp2
          go_ret
          exact ⟨retB HRR.out.symm, B1.out⟩
    · subst e
      by_cases hc2 : n < 2
      · have f2 : ¬ (2 : Int) ≤ n := by omega
        have HRR : Hid (R = false) := Lib.hid (by rw [HRG.out]; first | (simp [rgb, *]; done) | (simp [rgb, *]; omega) | (simp [rgb]; omega))
        go_wp2
        go_ret
        exact ⟨retB HRR.out.symm, B1.out⟩
      · have f2 : (2 : Int) ≤ n := by omega
        cases zb with
        | true =>
          have HRR : Hid (R = false) := Lib.hid (by rw [HRG.out]; first | (simp [rgb, *]; done) | (simp [rgb, *]; omega) | (simp [rgb]; omega))
          go_wp2
          go_ret
          exact ⟨retB HRR.out.symm, B1.out⟩
        | false =>
          have HRR : Hid (R = false) := Lib.hid (by rw [HRG.out]; first | (simp [rgb, *]; done) | (simp [rgb, *]; omega) | (simp [rgb]; omega))
          go_wp2
          go_ret
          exact ⟨retB HRR.out.symm, B1.out⟩
    · subst e
      by_cases hc2 : ¬ n = 1
      · have f2 : (n == 1) = false := by simp; omega
        have HRR : Hid (R = false) := Lib.hid (by rw [HRG.out]; first | (simp [rgb, *]; done) | (simp [rgb, *]; omega) | (simp [rgb]; omega))
        go_wp2
        go_ret
        exact ⟨retB HRR.out.symm, B1.out⟩
      · have f2 : (n == 1) = true := by simp; omega
        cases zb with
        | true =>
          have HRR : Hid (R = false) := Lib.hid (by rw [HRG.out]; first | (simp [rgb, *]; done) | (simp [rgb, *]; omega) | (simp [rgb]; omega))
          go_wp2
          go_ret
          exact ⟨retB HRR.out.symm, B1.out⟩
        | false =>
          have HRR : Hid (R = false) := Lib.hid (by rw [HRG.out]; first | (simp [rgb, *]; done) | (simp [rgb, *]; omega) | (simp [rgb]; omega))
          go_wp2
          go_ret
          exact ⟨retB HRR.out.symm, B1.out⟩
    · subst e
      by_cases hc2 : ¬ n = 1
      · have f2 : (n == 1) = false := by simp; omega
        have HRR : Hid (R = false) := Lib.hid (by rw [HRG.out]; first | (simp [rgb, *]; done) | (simp [rgb, *]; omega) | (simp [rgb]; omega))
        go_wp2
        go_ret
        exact ⟨retB HRR.out.symm, B1.out⟩
      · have f2 : (n == 1) = true := by simp; omega
        cases zb with
        | true =>
          have HRR : Hid (R = false) := Lib.hid (by rw [HRG.out]; first | (simp [rgb, *]; done) | (simp [rgb, *]; omega) | (simp [rgb]; omega))
          go_wp2
          go_ret
          exact ⟨retB HRR.out.symm, B1.out⟩
        | false =>
          have HRR : Hid (R = false) := Lib.hid (by rw [HRG.out]; first | (simp [rgb, *]; done) | (simp [rgb, *]; omega) | (simp [rgb]; omega))
          go_wp2
          go_ret
          exact ⟨retB HRR.out.symm, B1.out⟩
    · subst e
      by_cases hc2 : ¬ n = 1
      · have f2 : (n == 1) = false := by simp; omega
        have HRR : Hid (R = false) := Lib.hid (by rw [HRG.out]; first | (simp [rgb, *]; done) | (simp [rgb, *]; omega) | (simp [rgb]; omega))
        go_wp2
        go_ret
        exact ⟨retB HRR.out.symm, B1.out⟩
      · have f2 : (n == 1) = true := by simp; omega
        cases zb with
        | true =>
          have HRR : Hid (R = false) := Lib.hid (by rw [HRG.out]; first | (simp [rgb, *]; done) | (simp [rgb, *]; omega) | (simp [rgb]; omega))
          go_wp2
          go_ret
          exact ⟨retB HRR.out.symm, B1.out⟩
        | false =>
          have HRR : Hid (R = false) := Lib.hid (by rw [HRG.out]; first | (simp [rgb, *]; done) | (simp [rgb, *]; omega) | (simp [rgb]; omega))
          go_wp2
          go_ret
          exact ⟨retB HRR.out.symm, B1.out⟩
    · subst e
      by_cases hc7 : ¬ n = 1
      · have f7 : (n == 1) = false := by simp; omega
        have HRR : Hid (R = false) := Lib.hid (by rw [HRG.out]; first | (simp [rgb, *]; done) | (simp [rgb, *]; omega) | (simp [rgb]; omega))
        go_wp2
        go_ret
        exact ⟨retB HRR.out.symm, B1.out⟩
      · have f7 : (n == 1) = true := by simp; omega
        cases zb with
        | true =>
          by_cases hc5 : lo < 0
          · have f5 : ¬ (0 : Int) ≤ lo := by omega
            have HRR : Hid (R = false) := Lib.hid (by rw [HRG.out]; first | (simp [rgb, *]; done) | (simp [rgb, *]; omega) | (simp [rgb]; omega))
            go_wp2
            go_ret
            exact ⟨retB HRR.out.symm, B1.out⟩
          · have f5 : (0 : Int) ≤ lo := by omega
            by_cases hc4 : 30 < lo
            · have f4 : ¬ lo ≤ 30 := by omega
              have HRR : Hid (R = false) := Lib.hid (by rw [HRG.out]; first | (simp [rgb, *]; done) | (simp [rgb, *]; omega) | (simp [rgb]; omega))
              go_wp2
              go_ret
              exact ⟨retB HRR.out.symm, B1.out⟩
            · have f4 : lo ≤ 30 := by omega
              by_cases hc3 : hi = -1
              · have f3 : (hi == -1) = true := by simp; omega
                have HRR : Hid (R = true) := Lib.hid (by rw [HRG.out]; first | (simp [rgb, *]; done) | (simp [rgb, *]; omega) | (simp [rgb]; omega))
                go_wp2
                go_ret
                exact ⟨retB HRR.out.symm, B1.out⟩
              · have f3 : (hi == -1) = false := by simp; omega
                by_cases hc2 : hi < lo
                · have f2 : ¬ lo ≤ hi := by omega
                  have HRR : Hid (R = false) := Lib.hid (by rw [HRG.out]; first | (simp [rgb, *]; done) | (simp [rgb, *]; omega) | (simp [rgb]; omega))
                  go_wp2
                  go_ret
                  exact ⟨retB HRR.out.symm, B1.out⟩
                · have f2 : lo ≤ hi := by omega
                  by_cases hc1 : 30 < hi
                  · have f1 : ¬ hi ≤ 30 := by omega
                    have HRR : Hid (R = false) := Lib.hid (by rw [HRG.out]; first | (simp [rgb, *]; done) | (simp [rgb, *]; omega) | (simp [rgb]; omega))
                    go_wp2
                    go_ret
                    exact ⟨retB HRR.out.symm, B1.out⟩
                  · have f1 : hi ≤ 30 := by omega
                    have HRR : Hid (R = true) := Lib.hid (by rw [HRG.out]; first | (simp [rgb, *]; done) | (simp [rgb, *]; omega) | (simp [rgb]; omega))
                    go_wp2
                    go_ret
                    exact ⟨retB HRR.out.symm, B1.out⟩
        | false =>
          have HRR : Hid (R = false) := Lib.hid (by rw [HRG.out]; first | (simp [rgb, *]; done) | (simp [rgb, *]; omega) | (simp [rgb]; omega))
          go_wp2
          go_ret
          exact ⟨retB HRR.out.symm, B1.out⟩
    · have u1 : (k == 1) = false := by simp; omega
      have u2 : (k == 2) = false := by simp; omega
      have u3 : (k == 3) = false := by simp; omega
      have u4 : (k == 4) = false := by simp; omega
      have u5 : (k == 5) = false := by simp; omega
      have u6 : (k == 6) = false := by simp; omega
      have u7 : (k == 7) = false := by simp; omega
      have u8 : (k == 8) = false := by simp; omega
      have HRR : Hid (R = false) := Lib.hid (by rw [HRG.out]; first | (simp [rgb, *]; done) | (simp [rgb, *]; omega) | (simp [rgb]; omega))
      go_wp2
      go_ret
      exact ⟨retB HRR.out.symm, B1.out⟩
  · subst g
    have q2 : (hi == 0) = false := by simp [g']
    go_enter Tryd.func19, Tryd.ntmps19
    go_upto_region 1 with fail
    rw [← hw1]
    clear hw1
    go_upto_region 3 with fail
    rcases (show k = 1 ∨ k = 2 ∨ k = 3 ∨ k = 4 ∨ k = 5 ∨ k = 6 ∨ k = 7 ∨ k = 8 ∨ (k ≠ 1 ∧ k ≠ 2 ∧ k ≠ 3 ∧ k ≠ 4 ∧ k ≠ 5 ∧ k ≠ 6 ∧ k ≠ 7 ∧ k ≠ 8) by omega) with e | e | e | e | e | e | e | e | ⟨e1, e2, e3, e4, e5, e6, e7, e8⟩
    · subst e
      by_cases hc2 : ¬ n = 0
      · have f2 : (n == 0) = false := by simp; omega
        have HRR : Hid (R = false) := Lib.hid (by rw [HRG.out]; first | (simp [rgb, *]; done) | (simp [rgb, *]; omega) | (simp [rgb]; omega))
        go_wp2
        go_ret
        exact ⟨retB HRR.out.symm, B1.out⟩
      · have f2 : (n == 0) = true := by simp; omega
        cases zb with
        | true =>
          have HRR : Hid (R = false) := Lib.hid (by rw [HRG.out]; first | (simp [rgb, *]; done) | (simp [rgb, *]; omega) | (simp [rgb]; omega))
          go_wp2
          go_ret
          exact ⟨retB HRR.out.symm, B1.out⟩
        | false =>
          have HRR : Hid (R = false) := Lib.hid (by rw [HRG.out]; first | (simp [rgb, *]; done) | (simp [rgb, *]; omega) | (simp [rgb]; omega))
          go_wp2
          go_ret
          exact ⟨retB HRR.out.symm, B1.out⟩
    · subst e
      by_cases hc2 : ¬ n = 0
      · have f2 : (n == 0) = false := by simp; omega
        have HRR : Hid (R = false) := Lib.hid (by rw [HRG.out]; first | (simp [rgb, *]; done) | (simp [rgb, *]; omega) | (simp [rgb]; omega))
        go_wp2
        go_ret
        exact ⟨retB HRR.out.symm, B1.out⟩
      · have f2 : (n == 0) = true := by simp; omega
        cases zb with
        | true =>
          have HRR : Hid (R = false) := Lib.hid (by rw [HRG.out]; first | (simp [rgb, *]; done) | (simp [rgb, *]; omega) | (simp [rgb]; omega))
          go_wp2
          go_ret
          exact ⟨retB HRR.out.symm, B1.out⟩
        | false =>
          have HRR : Hid (R = false) := Lib.hid (by rw [HRG.out]; first | (simp [rgb, *]; done) | (simp [rgb, *]; omega) | (simp [rgb]; omega))
          go_wp2
          go_ret
          exact ⟨retB HRR.out.symm, B1.out⟩
    · subst e
      by_cases hc2 : n < 2
      · have f2 : ¬ (2 : Int) ≤ n := by omega
        have HRR : Hid (R = false) := Lib.hid (by rw [HRG.out]; first | (simp [rgb, *]; done) | (simp [rgb, *]; omega) | (simp [rgb]; omega))
        go_wp2
        go_ret
        exact ⟨retB HRR.out.symm, B1.out⟩
      · have f2 : (2 : Int) ≤ n := by omega
        cases zb with
        | true =>
          have HRR : Hid (R = false) := Lib.hid (by rw [HRG.out]; first | (simp [rgb, *]; done) | (simp [rgb, *]; omega) | (simp [rgb]; omega))
          go_wp2
          go_ret
          exact ⟨retB HRR.out.symm, B1.out⟩
        | false =>
          have HRR : Hid (R = false) := Lib.hid (by rw [HRG.out]; first | (simp [rgb, *]; done) | (simp [rgb, *]; omega) | (simp [rgb]; omega))
          go_wp2
          go_ret
          exact ⟨retB HRR.out.symm, B1.out⟩
    · subst e
      by_cases hc2 : n < 2
      · have f2 : ¬ (2 : Int) ≤ n := by omega
        have HRR : Hid (R = false) := Lib.hid (by rw [HRG.out]; first | (simp [rgb, *]; done) | (simp [rgb, *]; omega) | (simp [rgb]; omega))
        go_wp2
        go_ret
        exact ⟨retB HRR.out.symm, B1.out⟩
      · have f2 : (2 : Int) ≤ n := by omega
        cases zb with
        | true =>
          have HRR : Hid (R = false) := Lib.hid (by rw [HRG.out]; first | (simp [rgb, *]; done) | (simp [rgb, *]; omega) | (simp [rgb]; omega))
          go_wp2
          go_ret
          exact ⟨retB HRR.out.symm, B1.out⟩
        | false =>
          have HRR : Hid (R = false) := Lib.hid (by rw [HRG.out]; first | (simp [rgb, *]; done) | (simp [rgb, *]; omega) | (simp [rgb]; omega))
          go_wp2
          go_ret
          exact ⟨retB HRR.out.symm, B1.out⟩
    · subst e
      by_cases hc2 : ¬ n = 1
      · have f2 : (n == 1) = false := by simp; omega
        have HRR : Hid (R = false) := Lib.hid (by rw [HRG.out]; first | (simp [rgb, *]; done) | (simp [rgb, *]; omega) | (simp [rgb]; omega))
        go_wp2
        go_ret
        exact ⟨retB HRR.out.symm, B1.out⟩
      · have f2 : (n == 1) = true := by simp; omega
        cases zb with
        | true =>
          have HRR : Hid (R = false) := Lib.hid (by rw [HRG.out]; first | (simp [rgb, *]; done) | (simp [rgb, *]; omega) | (simp [rgb]; omega))
          go_wp2
          go_ret
          exact ⟨retB HRR.out.symm, B1.out⟩
        | false =>
          have HRR : Hid (R = false) := Lib.hid (by rw [HRG.out]; first | (simp [rgb, *]; done) | (simp [rgb, *]; omega) | (simp [rgb]; omega))
          go_wp2
          go_ret
          exact ⟨retB HRR.out.symm, B1.out⟩
    · subst e
      by_cases hc2 : ¬ n = 1
      · have f2 : (n == 1) = false := by simp; omega
        have HRR : Hid (R = false) := Lib.hid (by rw [HRG.out]; first | (simp [rgb, *]; done) | (simp [rgb, *]; omega) | (simp [rgb]; omega))
        go_wp2
        go_ret
        exact ⟨retB HRR.out.symm, B1.out⟩
      · have f2 : (n == 1) = true := by simp; omega
        cases zb with
        | true =>
          have HRR : Hid (R = false) := Lib.hid (by rw [HRG.out]; first | (simp [rgb, *]; done) | (simp [rgb, *]; omega) | (simp [rgb]; omega))
          go_wp2
          go_ret
          exact ⟨retB HRR.out.symm, B1.out⟩
        | false =>
          have HRR : Hid (R = false) := Lib.hid (by rw [HRG.out]; first | (simp [rgb, *]; done) | (simp [rgb, *]; omega) | (simp [rgb]; omega))
          go_wp2
          go_ret
          exact ⟨retB HRR.out.symm, B1.out⟩
    · subst e
      by_cases hc2 : ¬ n = 1
      · have f2 : (n == 1) = false := by simp; omega
        have HRR : Hid (R = false) := Lib.hid (by rw [HRG.out]; first | (simp [rgb, *]; done) | (simp [rgb, *]; omega) | (simp [rgb]; omega))
        go_wp2
        go_ret
        exact ⟨retB HRR.out.symm, B1.out⟩
      · have f2 : (n == 1) = true := by simp; omega
        cases zb with
        | true =>
          have HRR : Hid (R = false) := Lib.hid (by rw [HRG.out]; first | (simp [rgb, *]; done) | (simp [rgb, *]; omega) | (simp [rgb]; omega))
          go_wp2
          go_ret
          exact ⟨retB HRR.out.symm, B1.out⟩
        | false =>
          have HRR : Hid (R = false) := Lib.hid (by rw [HRG.out]; first | (simp [rgb, *]; done) | (simp [rgb, *]; omega) | (simp [rgb]; omega))
          go_wp2
          go_ret
          exact ⟨retB HRR.out.symm, B1.out⟩
    · subst e
      by_cases hc5 : ¬ n = 1
      · have f5 : (n == 1) = false := by simp; omega
        have HRR : Hid (R = false) := Lib.hid (by rw [HRG.out]; first | (simp [rgb, *]; done) | (simp [rgb, *]; omega) | (simp [rgb]; omega))
        go_wp2
        go_ret
        exact ⟨retB HRR.out.symm, B1.out⟩
      · have f5 : (n == 1) = true := by simp; omega
        cases zb with
        | true =>
          by_cases hc3 : hi = -1
          · have f3 : (hi == -1) = true := by simp; omega
            have HRR : Hid (R = true) := Lib.hid (by rw [HRG.out]; first | (simp [rgb, *]; done) | (simp [rgb, *]; omega) | (simp [rgb]; omega))
            go_wp2
            go_ret
            exact ⟨retB HRR.out.symm, B1.out⟩
          · have f3 : (hi == -1) = false := by simp; omega
            by_cases hc2 : hi < 0
            · have f2 : ¬ (0 : Int) ≤ hi := by omega
              have HRR : Hid (R = false) := Lib.hid (by rw [HRG.out]; first | (simp [rgb, *]; done) | (simp [rgb, *]; omega) | (simp [rgb]; omega))
              go_wp2
              go_ret
              exact ⟨retB HRR.out.symm, B1.out⟩
            · have f2 : (0 : Int) ≤ hi := by omega
              by_cases hc1 : 30 < hi
              · have f1 : ¬ hi ≤ 30 := by omega
                have HRR : Hid (R = false) := Lib.hid (by rw [HRG.out]; first | (simp [rgb, *]; done) | (simp [rgb, *]; omega) | (simp [rgb]; omega))
                go_wp2
                go_ret
                exact ⟨retB HRR.out.symm, B1.out⟩
              · have f1 : hi ≤ 30 := by omega
                have HRR : Hid (R = true) := Lib.hid (by rw [HRG.out]; first | (simp [rgb, *]; done) | (simp [rgb, *]; omega) | (simp [rgb]; omega))
                go_wp2
                go_ret
                exact ⟨retB HRR.out.symm, B1.out⟩
        | false =>
          have HRR : Hid (R = false) := Lib.hid (by rw [HRG.out]; first | (simp [rgb, *]; done) | (simp [rgb, *]; omega) | (simp [rgb]; omega))
          go_wp2
          go_ret
          exact ⟨retB HRR.out.symm, B1.out⟩
    · have u1 : (k == 1) = false := by simp; omega
      have u2 : (k == 2) = false := by simp; omega
      have u3 : (k == 3) = false := by simp; omega
      have u4 : (k == 4) = false := by simp; omega
      have u5 : (k == 5) = false := by simp; omega
      have u6 : (k == 6) = false := by simp; omega
      have u7 : (k == 7) = false := by simp; omega
      have u8 : (k == 8) = false := by simp; omega
      have HRR : Hid (R = false) := Lib.hid (by rw [HRG.out]; first | (simp [rgb, *]; done) | (simp [rgb, *]; omega) | (simp [rgb]; omega))
      go_wp2
      go_ret
      exact ⟨retB HRR.out.symm, B1.out⟩
  · subst g
    subst g'
    go_enter Tryd.func19, Tryd.ntmps19
    go_upto_region 1 with fail
    rw [← hw1]
    clear hw1
    go_upto_region 3 with fail
    rcases (show k = 1 ∨ k = 2 ∨ k = 3 ∨ k = 4 ∨ k = 5 ∨ k = 6 ∨ k = 7 ∨ k = 8 ∨ (k ≠ 1 ∧ k ≠ 2 ∧ k ≠ 3 ∧ k ≠ 4 ∧ k ≠ 5 ∧ k ≠ 6 ∧ k ≠ 7 ∧ k ≠ 8) by omega) with e | e | e | e | e | e | e | e | ⟨e1, e2, e3, e4, e5, e6, e7, e8⟩
    · subst e
      by_cases hc2 : ¬ n = 0
      · have f2 : (n == 0) = false := by simp; omega
        have HRR : Hid (R = false) := Lib.hid (by rw [HRG.out]; first | (simp [rgb, *]; done) | (simp [rgb, *]; omega) | (simp [rgb]; omega))
        go_wp2
        go_ret
        exact ⟨retB HRR.out.symm, B1.out⟩
      · have f2 : (n == 0) = true := by simp; omega
        cases zb with
        | true =>
          have HRR : Hid (R = false) := Lib.hid (by rw [HRG.out]; first | (simp [rgb, *]; done) | (simp [rgb, *]; omega) | (simp [rgb]; omega))
          go_wp2
          go_ret
          exact ⟨retB HRR.out.symm, B1.out⟩
        | false =>
          have HRR : Hid (R = true) := Lib.hid (by rw [HRG.out]; first | (simp [rgb, *]; done) | (simp [rgb, *]; omega) | (simp [rgb]; omega))
          go_wp2
          go_ret
          exact ⟨retB HRR.out.symm, B1.out⟩
    · subst e
      by_cases hc2 : ¬ n = 0
      · have f2 : (n == 0) = false := by simp; omega
        have HRR : Hid (R = false) := Lib.hid (by rw [HRG.out]; first | (simp [rgb, *]; done) | (simp [rgb, *]; omega) | (simp [rgb]; omega))
        go_wp2
        go_ret
        exact ⟨retB HRR.out.symm, B1.out⟩
      · have f2 : (n == 0) = true := by simp; omega
        cases zb with
        | true =>
          have HRR : Hid (R = true) := Lib.hid (by rw [HRG.out]; first | (simp [rgb, *]; done) | (simp [rgb, *]; omega) | (simp [rgb]; omega))
          go_wp2
          go_ret
          exact ⟨retB HRR.out.symm, B1.out⟩
        | false =>
          have HRR : Hid (R = false) := Lib.hid (by rw [HRG.out]; first | (simp [rgb, *]; done) | (simp [rgb, *]; omega) | (simp [rgb]; omega))
          go_wp2
          go_ret
          exact ⟨retB HRR.out.symm, B1.out⟩
    · subst e
      by_cases hc2 : n < 2
      · have f2 : ¬ (2 : Int) ≤ n := by omega
        have HRR : Hid (R = false) := Lib.hid (by rw [HRG.out]; first | (simp [rgb, *]; done) | (simp [rgb, *]; omega) | (simp [rgb]; omega))
        go_wp2
        go_ret
        exact ⟨retB HRR.out.symm, B1.out⟩
      · have f2 : (2 : Int) ≤ n := by omega
        cases zb with
        | true =>
          have HRR : Hid (R = true) := Lib.hid (by rw [HRG.out]; first | (simp [rgb, *]; done) | (simp [rgb, *]; omega) | (simp [rgb]; omega))
          go_wp2
          go_ret
          exact ⟨retB HRR.out.symm, B1.out⟩
        | false =>
          have HRR : Hid (R = false) := Lib.hid (by rw [HRG.out]; first | (simp [rgb, *]; done) | (simp [rgb, *]; omega) | (simp [rgb]; omega))
          go_wp2
          go_ret
          exact ⟨retB HRR.out.symm, B1.out⟩
    · subst e
      by_cases hc2 : n < 2
      · have f2 : ¬ (2 : Int) ≤ n := by omega
        have HRR : Hid (R = false) := Lib.hid (by rw [HRG.out]; first | (simp [rgb, *]; done) | (simp [rgb, *]; omega) | (simp [rgb]; omega))
        go_wp2
        go_ret
        exact ⟨retB HRR.out.symm, B1.out⟩
      · have f2 : (2 : Int) ≤ n := by omega
        cases zb with
        | true =>
          have HRR : Hid (R = true) := Lib.hid (by rw [HRG.out]; first | (simp [rgb, *]; done) | (simp [rgb, *]; omega) | (simp [rgb]; omega))
          go_wp2
          go_ret
          exact ⟨retB HRR.out.symm, B1.out⟩
        | false =>
          have HRR : Hid (R = false) := Lib.hid (by rw [HRG.out]; first | (simp [rgb, *]; done) | (simp [rgb, *]; omega) | (simp [rgb]; omega))
          go_wp2
          go_ret
          exact ⟨retB HRR.out.symm, B1.out⟩
    · subst e
      by_cases hc2 : ¬ n = 1
      · have f2 : (n == 1) = false := by simp; omega
        have HRR : Hid (R = false) := Lib.hid (by rw [HRG.out]; first | (simp [rgb, *]; done) | (simp [rgb, *]; omega) | (simp [rgb]; omega))
        go_wp2
        go_ret
        exact ⟨retB HRR.out.symm, B1.out⟩
      · have f2 : (n == 1) = true := by simp; omega
        cases zb with
        | true =>
          have HRR : Hid (R = true) := Lib.hid (by rw [HRG.out]; first | (simp [rgb, *]; done) | (simp [rgb, *]; omega) | (simp [rgb]; omega))
          go_wp2
          go_ret
          exact ⟨retB HRR.out.symm, B1.out⟩
        | false =>
          have HRR : Hid (R = false) := Lib.hid (by rw [HRG.out]; first | (simp [rgb, *]; done) | (simp [rgb, *]; omega) | (simp [rgb]; omega))
          go_wp2
          go_ret
          exact ⟨retB HRR.out.symm, B1.out⟩
    · subst e
      by_cases hc2 : ¬ n = 1
      · have f2 : (n == 1) = false := by simp; omega
        have HRR : Hid (R = false) := Lib.hid (by rw [HRG.out]; first | (simp [rgb, *]; done) | (simp [rgb, *]; omega) | (simp [rgb]; omega))
        go_wp2
        go_ret
        exact ⟨retB HRR.out.symm, B1.out⟩
      · have f2 : (n == 1) = true := by simp; omega
        cases zb with
        | true =>
          have HRR : Hid (R = true) := Lib.hid (by rw [HRG.out]; first | (simp [rgb, *]; done) | (simp [rgb, *]; omega) | (simp [rgb]; omega))
          go_wp2
          go_ret
          exact ⟨retB HRR.out.symm, B1.out⟩
        | false =>
          have HRR : Hid (R = false) := Lib.hid (by rw [HRG.out]; first | (simp [rgb, *]; done) | (simp [rgb, *]; omega) | (simp [rgb]; omega))
          go_wp2
          go_ret
          exact ⟨retB HRR.out.symm, B1.out⟩
    · subst e
      by_cases hc2 : ¬ n = 1
      · have f2 : (n == 1) = false := by simp; omega
        have HRR : Hid (R = false) := Lib.hid (by rw [HRG.out]; first | (simp [rgb, *]; done) | (simp [rgb, *]; omega) | (simp [rgb]; omega))
        go_wp2
        go_ret
        exact ⟨retB HRR.out.symm, B1.out⟩
      · have f2 : (n == 1) = true := by simp; omega
        cases zb with
        | true =>
          have HRR : Hid (R = true) := Lib.hid (by rw [HRG.out]; first | (simp [rgb, *]; done) | (simp [rgb, *]; omega) | (simp [rgb]; omega))
          go_wp2
          go_ret
          exact ⟨retB HRR.out.symm, B1.out⟩
        | false =>
          have HRR : Hid (R = false) := Lib.hid (by rw [HRG.out]; first | (simp [rgb, *]; done) | (simp [rgb, *]; omega) | (simp [rgb]; omega))
          go_wp2
          go_ret
          exact ⟨retB HRR.out.symm, B1.out⟩
    · subst e
      by_cases hc2 : ¬ n = 1
      · have f2 : (n == 1) = false := by simp; omega
        have HRR : Hid (R = false) := Lib.hid (by rw [HRG.out]; first | (simp [rgb, *]; done) | (simp [rgb, *]; omega) | (simp [rgb]; omega))
        go_wp2
        go_ret
        exact ⟨retB HRR.out.symm, B1.out⟩
      · have f2 : (n == 1) = true := by simp; omega
        cases zb with
        | true =>
          have HRR : Hid (R = true) := Lib.hid (by rw [HRG.out]; first | (simp [rgb, *]; done) | (simp [rgb, *]; omega) | (simp [rgb]; omega))
          go_wp2
          go_ret
          exact ⟨retB HRR.out.symm, B1.out⟩
        | false =>
          have HRR : Hid (R = false) := Lib.hid (by rw [HRG.out]; first | (simp [rgb, *]; done) | (simp [rgb, *]; omega) | (simp [rgb]; omega))
          go_wp2
          go_ret
          exact ⟨retB HRR.out.symm, B1.out⟩
    · have u1 : (k == 1) = false := by simp; omega
      have u2 : (k == 2) = false := by simp; omega
      have u3 : (k == 3) = false := by simp; omega
      have u4 : (k == 4) = false := by simp; omega
      have u5 : (k == 5) = false := by simp; omega
      have u6 : (k == 6) = false := by simp; omega
      have u7 : (k == 7) = false := by simp; omega
      have u8 : (k == 8) = false := by simp; omega
      have HRR : Hid (R = false) := Lib.hid (by rw [HRG.out]; first | (simp [rgb, *]; done) | (simp [rgb, *]; omega) | (simp [rgb]; omega))
      go_wp2
      go_ret
      exact ⟨retB HRR.out.symm, B1.out⟩
end Go.Proofs.YtabcehifdomolaaDoor.Rf
namespace Go.Proofs.YtabcehifdomolaaDoor.Eb
open Go.RowKit Go.Proofs.YtabcehifdomolaaDoor.Vm Go.Proofs.YtabcehifdomolaaDoor.Vo Go.Proofs.YtabcehifdomolaaDoor.Bw Go.Proofs.YtabcehifdomolaaDoor.Na Go.Proofs.YtabcehifdomolaaDoor.Tm Go.Proofs.YtabcehifdomolaaDoor.Ta Go.Proofs.YtabcehifdomolaaDoor.Tb Go.Proofs.YtabcehifdomolaaDoor.Tf Go.Proofs.YtabcehifdomolaaDoor.Rm Go.Proofs.YtabcehifdomolaaDoor.Rv Go.Proofs.YtabcehifdomolaaDoor.Ra Go.Proofs.YtabcehifdomolaaDoor.Re

set_option maxHeartbeats 2000000 in
set_option maxRecDepth 100000 in
theorem End_any {A : Option Addr} {cap : Nat} {l : List Nd} (hl : l.length ≤ 1000000) (i : Int) (hi : i ≤ 9223372036854775807) {w : World} (H : Hid (nds w A l)) :
    Calls Tryd.prog 12 #[.slice A l.length cap, .int .i64 i] w fun e w' => e = .returned (.int .i64 (endI l i)) ∧ w = w' := by
  obtain ⟨N, hN⟩ : ∃ N, N = l.length := ⟨_, rfl⟩
  obtain ⟨E, hE⟩ : ∃ E, E = endI l i := ⟨_, rfl⟩
  rw [← hN, ← hE]
  rw [← hN] at hl
  have HN := Lib.hid hN
  have HE := Lib.hid hE
  clear hN hE
  by_cases h0 : i < 0
  · have he : Hid (E = -1) := Lib.hid (by rw [HE.out]; unfold endI; rw [if_pos h0])
    go_enter Tryd.func12, Tryd.ntmps12
    go_wp2
    go_ret
    exact ⟨ret_i64 he.out.symm, rfl⟩
  · obtain ⟨n, rfl⟩ := Int.eq_ofNat_of_zero_le (show 0 ≤ i by omega)
    have HQ : Hid (E = endA (n : Int) (endW N (l.drop n) 1)) := Lib.hid (by rw [HE.out, HN.out]; unfold endI; rw [if_neg h0, Int.toNat_natCast])
    clear h0
    have h0' : ¬ (n : Int) < 0 := by omega
    go_enter Tryd.func12, Tryd.ntmps12
    go_wp2
    go_loopw [1, 5] (fun s1 s5 wr => ∃ (m v : Nat), s5 = .int .i64 (v : Int) ∧ s1 = .int .i64 ((n + m : Nat) : Int) ∧ Hid (m = 0 ∨ n + m ≤ N) ∧ Hid (v ≤ 1 + m * N) ∧ Hid (v = 0 → endW N (l.drop n) 1 = some m) ∧ Hid (1 ≤ v → endW N (l.drop n) 1 = (endW N (l.drop (n + m)) v).map (· + m)) ∧ wr = w) (fun s1 _ _ => N + 1 - (intOf s1).toNat)
    case atStart => exact ⟨0, 1, rfl, rfl, Lib.hid (.inl rfl), Lib.hid (by omega), Lib.hid (by omega), Lib.hid (fun _ => by simp), rfl⟩
    case round =>
      obtain ⟨m, v, rfl, rfl, HM, HV, HZ, HEQ, rfl⟩ := hrel
      by_cases hv0 : v = 0
      · subst hv0
        have HR : Hid (E = ((n + m : Nat) : Int)) := Lib.hid (by rw [HQ.out, HZ.out rfl]; show (n : Int) + (m : Int) = _; omega)
        go_wp2
        go_ret
        exact ⟨ret_i64 HR.out.symm, rfl⟩
      have hvp : (0 : Int) < (v : Int) := by omega
      have HVP := Lib.hid hv0
      clear hv0
      by_cases hk : n + m < N
      · obtain ⟨x, hx⟩ : ∃ x, l[n + m]? = some x := ⟨_, List.getElem?_eq_getElem (by rw [← HN.out]; exact hk)⟩
        obtain ⟨b, off, rfl, hb, hp⟩ := H.out _ x hx
        have c1 := hp.c1
        have hin := hp.ikn
        have HD := Lib.hid (drop_at hx)
        obtain ⟨k, hkk⟩ : ∃ k, k = n + m := ⟨_, rfl⟩
        obtain ⟨xn, hxn⟩ : ∃ xn, xn = x.n := ⟨_, rfl⟩
        have HEQ : Hid (endW N (l.drop n) 1 = (endW N (l.drop (n + m)) v).map (· + m)) := Lib.hid (HEQ.out (by have := HVP.out; omega))
        rw [← hkk] at c1 hk HD HM HEQ
        rw [← hxn] at c1 hin
        have HXN := Lib.hid hxn
        have HKK := Lib.hid hkk
        rw [← hkk]
        unfold in64 at hin
        have hk' : ¬ (N : Int) ≤ (k : Int) := by omega
        have hk2 : (k : Int) < (N : Int) := by omega
        have hk0 : (0 : Int) ≤ (k : Int) := by omega
        clear hp hx hkk hxn
        have no : xn < 0 ∨ (N : Int) < xn → Hid (E = -1) := fun hb => Lib.hid (by
          rw [HQ.out, HEQ.out, HD.out, endW, ← HXN.out, if_pos hb]; rfl)
        rcases (show xn < 0 ∨ (¬ xn < 0 ∧ (N : Int) < xn) ∨ (¬ xn < 0 ∧ ¬ (N : Int) < xn) by omega) with h1 | ⟨h1, h2⟩ | ⟨h1, h2⟩
        · have NO := no (.inl h1)
          clear no
          go_wp2
          go_ret
          exact ⟨ret_i64 NO.out.symm, rfl⟩
        · have NO := no (.inr h2)
          clear no
          go_wp2
          go_ret
          exact ⟨ret_i64 NO.out.symm, rfl⟩
        · obtain ⟨c, rfl⟩ := Int.eq_ofNat_of_zero_le (show 0 ≤ xn by omega)
          obtain ⟨u, hu⟩ : ∃ u, u = v - 1 + c := ⟨_, rfl⟩
          have hv := HV.out
          have hbig : m * N ≤ 1000000000000 := Nat.le_trans (Nat.mul_le_mul (show m ≤ 1000000 by have := HKK.out; omega) hl) (by decide)
          have hvv := HVP.out
          have HSt : Hid (endW N (l.drop n) 1 = if u = 0 then some (1 + m) else (endW N (l.drop (k + 1)) u).map (· + (m + 1))) := Lib.hid (by
            rw [HEQ.out, HD.out, endW, ← HXN.out, if_neg (by omega), Int.toNat_natCast, ← hu]
            split
            · rfl
            · rw [map_comm, Nat.add_comm 1 m])
          have HU : Hid (u ≤ 1 + (m + 1) * N) := Lib.hid (by rw [Nat.add_mul]; omega)
          have HZ' : Hid (u = 0 → endW N (l.drop n) 1 = some (m + 1)) := Lib.hid (fun h => by rw [HSt.out, if_pos h, Nat.add_comm])
          have HN' : Hid (1 ≤ u → endW N (l.drop n) 1 = (endW N (l.drop (n + (m + 1))) u).map (· + (m + 1))) := Lib.hid (fun h => by rw [HSt.out, if_neg (by omega), HKK.out, Nat.add_assoc])
          have HK1 : Hid (k + 1 = n + (m + 1)) := Lib.hid (by have := HKK.out; omega)
          have HLT := Lib.hid hk
          have hw2 : wrap64 ((v : Int) + ((c : Int) - 1)) = (u : Int) := by rw [wrap64_in (by omega) (by omega)]; omega
          clear no hu hv hbig hvv HEQ hk
          go_wp2
          go_roundw
          case rel => exact ⟨m + 1, u, congrArg (Value.int IntKind.i64) hw2, congrArg (Value.int IntKind.i64) (by have := HK1.out; have := HLT.out; omega), Lib.hid (.inr (by have := HK1.out; have := HLT.out; omega)), HU, HZ', HN', trivial⟩
          case measure => have := HLT.out; simp [intOf]; omega
      · have HEQ : Hid (endW N (l.drop n) 1 = (endW N (l.drop (n + m)) v).map (· + m)) := Lib.hid (HEQ.out (by have := HVP.out; omega))
        have HR : Hid (E = -1) := Lib.hid (by
          rw [HQ.out, HEQ.out, List.drop_eq_nil_of_le (by rw [← HN.out]; omega)]; rfl)
        have hk' : (N : Int) ≤ ((n + m : Nat) : Int) := by omega
        go_wp2
        go_ret
        exact ⟨ret_i64 HR.out.symm, rfl⟩
end Go.Proofs.YtabcehifdomolaaDoor.Eb
namespace Go.Proofs.YtabcehifdomolaaDoor.Ea
open Go.RowKit Go.Proofs.YtabcehifdomolaaDoor.Vm Go.Proofs.YtabcehifdomolaaDoor.Vo Go.Proofs.YtabcehifdomolaaDoor.Bw Go.Proofs.YtabcehifdomolaaDoor.Na Go.Proofs.YtabcehifdomolaaDoor.Tm Go.Proofs.YtabcehifdomolaaDoor.Ta Go.Proofs.YtabcehifdomolaaDoor.Tb Go.Proofs.YtabcehifdomolaaDoor.Tf Go.Proofs.YtabcehifdomolaaDoor.Tj Go.Proofs.YtabcehifdomolaaDoor.Rm Go.Proofs.YtabcehifdomolaaDoor.Rv Go.Proofs.YtabcehifdomolaaDoor.Ra Go.Proofs.YtabcehifdomolaaDoor.Rf

set_option maxRecDepth 100000 in
theorem eq_four9 (x0 x1 x2 x3 y0 y1 y2 y3 : Int) (w : World) :
    (Op.equalIn 9999 36 (.agg #[.int .u64 x0, .int .u64 x1, .int .u64 x2, .int .u64 x3]) (.agg #[.int .u64 y0, .int .u64 y1, .int .u64 y2, .int .u64 y3])).run Tryd.prog w = .ok (x0 == y0 && x1 == y1 && x2 == y2 && x3 == y3) w := by
  have u3 := Tryd.underlying34
  have a3 := Tryd.isAgg34
  have z3 := Tryd.sizeOf34
  rw [show (9999 : Nat) = 9998 + 1 from rfl, Op.equalIn]
  simp only [Sem.run_bind, run_underlying Tryd.underlying36, Result.andThen_ok]
  simp only [Std.Legacy.Range.forIn_eq_forIn_range', Std.Legacy.Range.size, Nat.sub_zero, Nat.add_sub_cancel, Nat.div_one, List.range'_succ, List.range'_zero, List.forIn_cons, List.forIn_nil]
  go_simp
  by_cases h0 : x0 = y0 <;> by_cases h1 : x1 = y1 <;> by_cases h2 : x2 = y2 <;> by_cases h3 : x3 = y3 <;> simp [h0, h1, h2, h3]
set_option maxRecDepth 100000 in
theorem eq_used (k n x0 x1 x2 x3 lo hi y0 y1 y2 y3 lo' hi' : Int) (u : World) :
    (Op.equalIn 10000 38 (.agg #[.int .i64 k, .int .i64 n, .int .u64 x0, .int .u64 x1, .int .u64 x2, .int .u64 x3, .int .i64 lo, .int .i64 hi]) (.agg #[.int .i64 k, .int .i64 n, .int .u64 y0, .int .u64 y1, .int .u64 y2, .int .u64 y3, .int .i64 lo', .int .i64 hi'])).run Tryd.prog u = .ok ((x0 == y0 && x1 == y1 && x2 == y2 && x3 == y3) && (lo == lo') && (hi == hi')) u := by
  have e4 := eq_four9 x0 x1 x2 x3 y0 y1 y2 y3
  obtain ⟨z, hz⟩ : ∃ z, z = (x0 == y0 && x1 == y1 && x2 == y2 && x3 == y3) := ⟨_, rfl⟩
  rw [← hz] at e4 ⊢
  clear hz
  by_cases hl : lo = lo' <;> by_cases hh : hi = hi' <;> cases z <;> (go_simp)
/-- Can two numbers be those of a repetition. -/
def bnd (lo hi : Int) : Bool := decide (0 ≤ lo ∧ lo ≤ (if hi = -1 then 30 else hi) ∧ (if hi = -1 then 30 else hi) ≤ 30)
set_option maxRecDepth 100000 in
theorem bounded_any (lo hi : Int) (w : World) : Calls Tryd.prog 26 #[.int .i64 lo, .int .i64 hi] w fun e w' => e = .returned (.bool (bnd lo hi)) ∧ w = w' := by
  obtain ⟨R, hR⟩ : ∃ R, R = bnd lo hi := ⟨_, rfl⟩
  rw [← hR]
  unfold bnd at hR
  by_cases h1 : hi = -1
  · subst h1
    rw [if_pos rfl] at hR
    have HR := Lib.hid hR
    clear hR
    rcases (show lo < 0 ∨ (0 ≤ lo ∧ 30 < lo) ∨ (0 ≤ lo ∧ lo ≤ 30) by omega) with h | ⟨h, h'⟩ | ⟨h, h'⟩
    · have HX : Hid (R = false) := Lib.hid (by rw [HR.out]; simp; omega)
      have h2 : ¬ (0 : Int) ≤ lo := by omega
      go_enter Tryd.func26, Tryd.ntmps26
      go_wp2
      go_ret
      exact ⟨retB HX.out.symm, rfl⟩
    · have HX : Hid (R = false) := Lib.hid (by rw [HR.out]; simp; omega)
      have h2 : ¬ lo ≤ (30 : Int) := by omega
      go_enter Tryd.func26, Tryd.ntmps26
      go_wp2
      go_ret
      exact ⟨retB HX.out.symm, rfl⟩
    · have HX : Hid (R = true) := Lib.hid (by rw [HR.out]; simp; omega)
      go_enter Tryd.func26, Tryd.ntmps26
      go_wp2
      go_ret
      exact ⟨retB HX.out.symm, rfl⟩
  · rw [if_neg h1] at hR
    have HR := Lib.hid hR
    clear hR
    have q : (hi == -1) = false := by simp [h1]
    rcases (show lo < 0 ∨ (0 ≤ lo ∧ hi < lo) ∨ (0 ≤ lo ∧ lo ≤ hi ∧ 30 < hi) ∨ (0 ≤ lo ∧ lo ≤ hi ∧ hi ≤ 30) by omega) with h | ⟨h, h'⟩ | ⟨h, h', h3⟩ | ⟨h, h', h3⟩
    · have HX : Hid (R = false) := Lib.hid (by rw [HR.out]; simp; omega)
      have h2 : ¬ (0 : Int) ≤ lo := by omega
      go_enter Tryd.func26, Tryd.ntmps26
      go_wp2
      go_ret
      exact ⟨retB HX.out.symm, rfl⟩
    · have HX : Hid (R = false) := Lib.hid (by rw [HR.out]; simp; omega)
      have h2 : ¬ lo ≤ hi := by omega
      go_enter Tryd.func26, Tryd.ntmps26
      go_wp2
      go_ret
      exact ⟨retB HX.out.symm, rfl⟩
    · have HX : Hid (R = false) := Lib.hid (by rw [HR.out]; simp; omega)
      have h2 : ¬ hi ≤ (30 : Int) := by omega
      go_enter Tryd.func26, Tryd.ntmps26
      go_wp2
      go_ret
      exact ⟨retB HX.out.symm, rfl⟩
    · have HX : Hid (R = true) := Lib.hid (by rw [HR.out]; simp; omega)
      go_enter Tryd.func26, Tryd.ntmps26
      go_wp2
      go_ret
      exact ⟨retB HX.out.symm, rfl⟩
end Go.Proofs.YtabcehifdomolaaDoor.Ea
namespace Go.Proofs.YtabcehifdomolaaDoor.Eg
open Go.RowKit Go.Proofs.YtabcehifdomolaaDoor.Vm Go.Proofs.YtabcehifdomolaaDoor.Vo Go.Proofs.YtabcehifdomolaaDoor.Bw Go.Proofs.YtabcehifdomolaaDoor.Na Go.Proofs.YtabcehifdomolaaDoor.Tm Go.Proofs.YtabcehifdomolaaDoor.Ta Go.Proofs.YtabcehifdomolaaDoor.Tb Go.Proofs.YtabcehifdomolaaDoor.Tf Go.Proofs.YtabcehifdomolaaDoor.Tj Go.Proofs.YtabcehifdomolaaDoor.Rm Go.Proofs.YtabcehifdomolaaDoor.Rv Go.Proofs.YtabcehifdomolaaDoor.Ra Go.Proofs.YtabcehifdomolaaDoor.Rf Go.Proofs.YtabcehifdomolaaDoor.Ea

theorem rgb8 (n lo hi : Int) (z : Bool) : rgb 8 n lo hi z = (decide (n = 1) && (bnd lo hi && z)) := by
  unfold bnd
  by_cases h2 : hi = -1
  · subst h2
    cases z <;> by_cases h1 : n = 1 <;> by_cases h3 : 0 ≤ lo <;> by_cases h4 : lo ≤ 30 <;> simp [rgb, h1, h3, h4]
  · cases z <;> by_cases h1 : n = 1 <;> by_cases h3 : 0 ≤ lo <;> by_cases h4 : lo ≤ hi <;> by_cases h5 : hi ≤ 30 <;> by_cases h6 : lo ≤ 30 <;> simp [rgb, h1, h2, h3, h4, h5, h6] <;> omega

set_option maxHeartbeats 4000000 in
set_option maxRecDepth 100000 in
theorem right_any (k n lo hi : Int) (x0 x1 x2 x3 : Nat) {w : World} :
    Calls Tryd.prog 18 #[.agg #[.int .i64 k, .int .i64 n, .int .u64 (x0 : Int), .int .u64 (x1 : Int), .int .u64 (x2 : Int), .int .u64 (x3 : Int), .int .i64 lo, .int .i64 hi]] w fun e w' => e = .returned (.bool (decide (right ⟨k, n, [x0, x1, x2, x3], lo, hi⟩))) ∧ Below w.heap.size w w' := by
  obtain ⟨w1, hw1⟩ : ∃ w1, w1 = w.alloc (.cells #[.int .i64 k, .int .i64 n, .int .u64 (x0 : Int), .int .u64 (x1 : Int), .int .u64 (x2 : Int), .int .u64 (x3 : Int), .int .i64 lo, .int .i64 hi] 38) := ⟨_, rfl⟩
  have s1 : w1.heap.size = w.heap.size + 1 := by rw [hw1]; exact size_alloc _ _
  have B1 : Hid (Below w.heap.size w w1) := Lib.hid (by rw [hw1]; exact below_alloc _ _)
  have K1 : Hid (Blk w1 w.heap.size 38 #[.int .i64 k, .int .i64 n, .int .u64 (x0 : Int), .int .u64 (x1 : Int), .int .u64 (x2 : Int), .int .u64 (x3 : Int), .int .i64 lo, .int .i64 hi]) := Lib.hid (by rw [hw1]; exact Blk.fresh _ _ _)
  obtain ⟨w2, hw2⟩ : ∃ w2, w2 = w1.alloc (.cells #[.int .i64 k, .int .i64 n, .int .u64 0, .int .u64 0, .int .u64 0, .int .u64 0, .int .i64 0, .int .i64 0] 38) := ⟨_, rfl⟩
  have s2 : w2.heap.size = w.heap.size + 2 := by rw [hw2, size_alloc, s1]
  have B2 : Hid (Below w.heap.size w w2) := Lib.hid (by rw [hw2]; exact B1.out.alloc (by omega) _)
  have K2 : Hid (Blk w2 w.heap.size 38 #[.int .i64 k, .int .i64 n, .int .u64 (x0 : Int), .int .u64 (x1 : Int), .int .u64 (x2 : Int), .int .u64 (x3 : Int), .int .i64 lo, .int .i64 hi]) := Lib.hid (by rw [hw2]; exact ((below_alloc w1 _).block _ (by omega)).trans K1.out)
  have U2 : Hid (Blk w2 (w.heap.size + 1) 38 #[.int .i64 k, .int .i64 n, .int .u64 0, .int .u64 0, .int .u64 0, .int .u64 0, .int .i64 0, .int .i64 0]) := Lib.hid (by rw [hw2, ← s1]; exact Blk.fresh _ _ _)
  have d0 : w2.cell? ⟨w.heap.size, 0, none⟩ = some (.int .i64 k) := K2.out.cell 0
  have d1 : w2.cell? ⟨w.heap.size, 1, none⟩ = some (.int .i64 n) := K2.out.cell 1
  have d2 : w2.cell? ⟨w.heap.size, 2, none⟩ = some (.int .u64 (x0 : Int)) := K2.out.cell 2
  have d3 : w2.cell? ⟨w.heap.size, 3, none⟩ = some (.int .u64 (x1 : Int)) := K2.out.cell 3
  have d4 : w2.cell? ⟨w.heap.size, 4, none⟩ = some (.int .u64 (x2 : Int)) := K2.out.cell 4
  have d5 : w2.cell? ⟨w.heap.size, 5, none⟩ = some (.int .u64 (x3 : Int)) := K2.out.cell 5
  have d6 : w2.cell? ⟨w.heap.size, 6, none⟩ = some (.int .i64 lo) := K2.out.cell 6
  have d7 : w2.cell? ⟨w.heap.size, 7, none⟩ = some (.int .i64 hi) := K2.out.cell 7
  have u0 : w2.cell? ⟨w.heap.size + 1, 0, none⟩ = some (.int .i64 k) := U2.out.cell 0
  have u1 : w2.cell? ⟨w.heap.size + 1, 1, none⟩ = some (.int .i64 n) := U2.out.cell 1
  have u2 : w2.cell? ⟨w.heap.size + 1, 2, none⟩ = some (.int .u64 0) := U2.out.cell 2
  have u3 : w2.cell? ⟨w.heap.size + 1, 3, none⟩ = some (.int .u64 0) := U2.out.cell 3
  have u4 : w2.cell? ⟨w.heap.size + 1, 4, none⟩ = some (.int .u64 0) := U2.out.cell 4
  have u5 : w2.cell? ⟨w.heap.size + 1, 5, none⟩ = some (.int .u64 0) := U2.out.cell 5
  have u6 : w2.cell? ⟨w.heap.size + 1, 6, none⟩ = some (.int .i64 0) := U2.out.cell 6
  have u7 : w2.cell? ⟨w.heap.size + 1, 7, none⟩ = some (.int .i64 0) := U2.out.cell 7
  have g2 : w2.frozen? ⟨w.heap.size + 1, 2, none⟩ = false := U2.out.frozen 2
  have g3 : w2.frozen? ⟨w.heap.size + 1, 3, none⟩ = false := U2.out.frozen 3
  have g4 : w2.frozen? ⟨w.heap.size + 1, 4, none⟩ = false := U2.out.frozen 4
  have g5 : w2.frozen? ⟨w.heap.size + 1, 5, none⟩ = false := U2.out.frozen 5
  have g6 : w2.frozen? ⟨w.heap.size + 1, 6, none⟩ = false := U2.out.frozen 6
  have g7 : w2.frozen? ⟨w.heap.size + 1, 7, none⟩ = false := U2.out.frozen 7
  obtain ⟨zb, hzb⟩ : ∃ zb : Bool, zb = decide (([x0, x1, x2, x3] : List Nat) = zero) := ⟨_, rfl⟩
  have hzz : zb = ((x0 : Int) == 0 && (x1 : Int) == 0 && (x2 : Int) == 0 && (x3 : Int) == 0) := by
    rw [hzb]
    by_cases h0 : x0 = 0 <;> by_cases h1 : x1 = 0 <;> by_cases h2 : x2 = 0 <;> by_cases h3 : x3 = 0 <;> simp [zero, h0, h1, h2, h3]
  have heq : ∀ w, (Op.equalIn 10000 36 (.agg #[.int .u64 (x0 : Int), .int .u64 (x1 : Int), .int .u64 (x2 : Int), .int .u64 (x3 : Int)]) (.agg #[.int .u64 0, .int .u64 0, .int .u64 0, .int .u64 0])).run Tryd.prog w = .ok zb w := fun w => by
    rw [eq_four, hzz]
  have hn0 : ∀ (l h : Int) u, (Op.equalIn 10000 38 (.agg #[.int .i64 k, .int .i64 n, .int .u64 (x0 : Int), .int .u64 (x1 : Int), .int .u64 (x2 : Int), .int .u64 (x3 : Int), .int .i64 lo, .int .i64 hi]) (.agg #[.int .i64 k, .int .i64 n, .int .u64 0, .int .u64 0, .int .u64 0, .int .u64 0, .int .i64 l, .int .i64 h])).run Tryd.prog u = .ok (zb && (lo == l) && (hi == h)) u := fun l h u => by
    rw [eq_used, hzz]
  have hn1 : ∀ u, (Op.equalIn 10000 38 (.agg #[.int .i64 k, .int .i64 n, .int .u64 (x0 : Int), .int .u64 (x1 : Int), .int .u64 (x2 : Int), .int .u64 (x3 : Int), .int .i64 lo, .int .i64 hi]) (.agg #[.int .i64 k, .int .i64 n, .int .u64 (x0 : Int), .int .u64 (x1 : Int), .int .u64 (x2 : Int), .int .u64 (x3 : Int), .int .i64 0, .int .i64 0])).run Tryd.prog u = .ok ((lo == 0) && (hi == 0)) u := fun u => by
    rw [eq_used]; simp
  obtain ⟨R, hR⟩ : ∃ R, R = decide (right ⟨k, n, [x0, x1, x2, x3], lo, hi⟩) := ⟨_, rfl⟩
  rw [← hR]
  have HRG : Hid (R = rgb k n lo hi zb) := Lib.hid (by
    rw [hR, hzb]
    unfold right rgb
    by_cases hz : ([x0, x1, x2, x3] : List Nat) = zero
    · simp [hz]
    · simp [hz])
  obtain ⟨bb, hbb⟩ : ∃ bb, bb = bnd lo hi := ⟨_, rfl⟩
  have HBN : Hid (∀ w, Calls Tryd.prog 26 #[.int .i64 lo, .int .i64 hi] w fun e w' => e = .returned (.bool bb) ∧ w = w') := Lib.hid (fun w => by rw [hbb]; exact bounded_any lo hi w)
  have HBB := Lib.hid hbb
  clear hzb hR hzz hbb
  obtain ⟨eb, heb⟩ : ∃ eb, eb = ((lo == 0) && (hi == 0)) := ⟨_, rfl⟩
  rw [← heb] at hn1
  have hn2 := hn0 0 0
  have hn3 := hn0 lo hi
  simp only [Bool.and_assoc, beq_self_eq_true, Bool.and_true] at hn2 hn3
  rw [← heb] at hn2
  clear hn0
  have HEB : Hid (eb = decide (lo = 0 ∧ hi = 0)) := Lib.hid (by rw [heb]; by_cases h1 : lo = 0 <;> by_cases h2 : hi = 0 <;> simp [h1, h2])
  clear heb
  go_enter Tryd.func18, Tryd.ntmps18
  go_upto_region 2 with fail
  rw [← hw1, ← hw2]
  clear hw1 hw2
  rcases (show k = 1 ∨ k = 2 ∨ k = 3 ∨ k = 4 ∨ k = 5 ∨ k = 6 ∨ k = 7 ∨ k = 8 ∨ (k ≠ 1 ∧ k ≠ 2 ∧ k ≠ 3 ∧ k ≠ 4 ∧ k ≠ 5 ∧ k ≠ 6 ∧ k ≠ 7 ∧ k ≠ 8) by omega) with e | e | e | e | e | e | e | e | ⟨e1, e2, e3, e4, e5, e6, e7, e8⟩
  · subst e
    have HE : Hid (R = (decide (n = 0) && !zb && eb)) := Lib.hid (by rw [HRG.out, HEB.out]; by_cases h1 : n = 0 <;> by_cases h2 : lo = 0 <;> by_cases h3 : hi = 0 <;> cases zb <;> simp [rgb, h1, h2, h3])
    clear hn2 hn3
    by_cases hn : n = 0
    · subst hn
      cases zb with
      | true =>
        have HRR : Hid (R = false) := Lib.hid (by rw [HRG.out]; rw [← HRG.out, HE.out]; rfl)
        go_wp2
        go_ret
        exact ⟨retB HRR.out.symm, (((B2.out.setCell (p := ⟨_, 2, none⟩) (Nat.le_succ _) _).setCell (p := ⟨_, 3, none⟩) (Nat.le_succ _) _).setCell (p := ⟨_, 4, none⟩) (Nat.le_succ _) _).setCell (p := ⟨_, 5, none⟩) (Nat.le_succ _) _⟩
      | false =>
        have HRR : Hid (R = eb) := Lib.hid (by rw [HRG.out]; rw [← HRG.out, HE.out]; simp)
        go_wp2
        go_ret
        exact ⟨retB HRR.out.symm, (((B2.out.setCell (p := ⟨_, 2, none⟩) (Nat.le_succ _) _).setCell (p := ⟨_, 3, none⟩) (Nat.le_succ _) _).setCell (p := ⟨_, 4, none⟩) (Nat.le_succ _) _).setCell (p := ⟨_, 5, none⟩) (Nat.le_succ _) _⟩
    · have f1 : (n == 0) = false := by simp; omega
      have HRR : Hid (R = false) := Lib.hid (by rw [HRG.out]; rw [← HRG.out, HE.out]; simp [hn])
      go_wp2
      go_ret
      exact ⟨retB HRR.out.symm, (((B2.out.setCell (p := ⟨_, 2, none⟩) (Nat.le_succ _) _).setCell (p := ⟨_, 3, none⟩) (Nat.le_succ _) _).setCell (p := ⟨_, 4, none⟩) (Nat.le_succ _) _).setCell (p := ⟨_, 5, none⟩) (Nat.le_succ _) _⟩
  · subst e
    have HE : Hid (R = (decide (n = 0) && (zb && eb))) := Lib.hid (by rw [HRG.out, HEB.out]; by_cases h1 : n = 0 <;> by_cases h2 : lo = 0 <;> by_cases h3 : hi = 0 <;> cases zb <;> simp [rgb, h1, h2, h3])
    by_cases hn : n = 0
    · subst hn
      have HRR : Hid (R = (zb && eb)) := Lib.hid (by rw [HRG.out]; rw [← HRG.out, HE.out]; simp)
      go_wp2
      go_ret
      exact ⟨retB HRR.out.symm, B2.out⟩
    · have f1 : (n == 0) = false := by simp; omega
      have HRR : Hid (R = false) := Lib.hid (by rw [HRG.out]; rw [← HRG.out, HE.out]; simp [hn])
      go_wp2
      go_ret
      exact ⟨retB HRR.out.symm, B2.out⟩
  · subst e
    have HE : Hid (R = (decide (2 ≤ n) && (zb && eb))) := Lib.hid (by rw [HRG.out, HEB.out]; by_cases h1 : (2 : Int) ≤ n <;> by_cases h2 : lo = 0 <;> by_cases h3 : hi = 0 <;> cases zb <;> simp [rgb, h1, h2, h3])
    by_cases hn : (2 : Int) ≤ n
    · skip
      have HRR : Hid (R = (zb && eb)) := Lib.hid (by rw [HRG.out]; rw [← HRG.out, HE.out]; simp [hn])
      go_wp2
      go_ret
      exact ⟨retB HRR.out.symm, B2.out⟩
    · skip
      have HRR : Hid (R = false) := Lib.hid (by rw [HRG.out]; rw [← HRG.out, HE.out]; simp [hn])
      go_wp2
      go_ret
      exact ⟨retB HRR.out.symm, B2.out⟩
  · subst e
    have HE : Hid (R = (decide (2 ≤ n) && (zb && eb))) := Lib.hid (by rw [HRG.out, HEB.out]; by_cases h1 : (2 : Int) ≤ n <;> by_cases h2 : lo = 0 <;> by_cases h3 : hi = 0 <;> cases zb <;> simp [rgb, h1, h2, h3])
    by_cases hn : (2 : Int) ≤ n
    · skip
      have HRR : Hid (R = (zb && eb)) := Lib.hid (by rw [HRG.out]; rw [← HRG.out, HE.out]; simp [hn])
      go_wp2
      go_ret
      exact ⟨retB HRR.out.symm, B2.out⟩
    · skip
      have HRR : Hid (R = false) := Lib.hid (by rw [HRG.out]; rw [← HRG.out, HE.out]; simp [hn])
      go_wp2
      go_ret
      exact ⟨retB HRR.out.symm, B2.out⟩
  · subst e
    have HE : Hid (R = (decide (n = 1) && (zb && eb))) := Lib.hid (by rw [HRG.out, HEB.out]; by_cases h1 : n = 1 <;> by_cases h2 : lo = 0 <;> by_cases h3 : hi = 0 <;> cases zb <;> simp [rgb, h1, h2, h3])
    by_cases hn : n = 1
    · subst hn
      have HRR : Hid (R = (zb && eb)) := Lib.hid (by rw [HRG.out]; rw [← HRG.out, HE.out]; simp)
      go_wp2
      go_ret
      exact ⟨retB HRR.out.symm, B2.out⟩
    · have f1 : (n == 1) = false := by simp; omega
      have HRR : Hid (R = false) := Lib.hid (by rw [HRG.out]; rw [← HRG.out, HE.out]; simp [hn])
      go_wp2
      go_ret
      exact ⟨retB HRR.out.symm, B2.out⟩
  · subst e
    have HE : Hid (R = (decide (n = 1) && (zb && eb))) := Lib.hid (by rw [HRG.out, HEB.out]; by_cases h1 : n = 1 <;> by_cases h2 : lo = 0 <;> by_cases h3 : hi = 0 <;> cases zb <;> simp [rgb, h1, h2, h3])
    by_cases hn : n = 1
    · subst hn
      have HRR : Hid (R = (zb && eb)) := Lib.hid (by rw [HRG.out]; rw [← HRG.out, HE.out]; simp)
      go_wp2
      go_ret
      exact ⟨retB HRR.out.symm, B2.out⟩
    · have f1 : (n == 1) = false := by simp; omega
      have HRR : Hid (R = false) := Lib.hid (by rw [HRG.out]; rw [← HRG.out, HE.out]; simp [hn])
      go_wp2
      go_ret
      exact ⟨retB HRR.out.symm, B2.out⟩
  · subst e
    have HE : Hid (R = (decide (n = 1) && (zb && eb))) := Lib.hid (by rw [HRG.out, HEB.out]; by_cases h1 : n = 1 <;> by_cases h2 : lo = 0 <;> by_cases h3 : hi = 0 <;> cases zb <;> simp [rgb, h1, h2, h3])
    by_cases hn : n = 1
    · subst hn
      have HRR : Hid (R = (zb && eb)) := Lib.hid (by rw [HRG.out]; rw [← HRG.out, HE.out]; simp)
      go_wp2
      go_ret
      exact ⟨retB HRR.out.symm, B2.out⟩
    · have f1 : (n == 1) = false := by simp; omega
      have HRR : Hid (R = false) := Lib.hid (by rw [HRG.out]; rw [← HRG.out, HE.out]; simp [hn])
      go_wp2
      go_ret
      exact ⟨retB HRR.out.symm, B2.out⟩
  · subst e
    have HE : Hid (R = (decide (n = 1) && (bb && zb))) := Lib.hid (by rw [HRG.out, HBB.out, rgb8])
    go_wp2
    go_region
    simp only [Exit.then]
    by_cases hn : n = 1
    · subst hn
      cases bb with
      | true =>
        have HRR : Hid (R = zb) := Lib.hid (by rw [HRG.out]; rw [← HRG.out, HE.out]; simp)
        go_wp2_with (go_at_call 26; refine (HBN.out _).mono ?_; rintro e w9 ⟨rfl, rfl⟩)
        go_ret
        exact ⟨retB HRR.out.symm, ((B2.out.setCell (p := ⟨_, 6, none⟩) (Nat.le_succ _) _).setCell (p := ⟨_, 7, none⟩) (Nat.le_succ _) _).drew⟩
      | false =>
        have HRR : Hid (R = false) := Lib.hid (by rw [HRG.out]; rw [← HRG.out, HE.out]; simp)
        go_wp2_with (go_at_call 26; refine (HBN.out _).mono ?_; rintro e w9 ⟨rfl, rfl⟩)
        go_ret
        exact ⟨retB HRR.out.symm, ((B2.out.setCell (p := ⟨_, 6, none⟩) (Nat.le_succ _) _).setCell (p := ⟨_, 7, none⟩) (Nat.le_succ _) _).drew⟩
    · have f1 : (n == 1) = false := by simp; omega
      have HRR : Hid (R = false) := Lib.hid (by rw [HRG.out]; rw [← HRG.out, HE.out]; simp [hn])
      go_wp2
      go_ret
      exact ⟨retB HRR.out.symm, ((B2.out.setCell (p := ⟨_, 6, none⟩) (Nat.le_succ _) _).setCell (p := ⟨_, 7, none⟩) (Nat.le_succ _) _).drew⟩
  · have q1 : (k == 1) = false := by simp; omega
    have q2 : (k == 2) = false := by simp; omega
    have q3 : (k == 3) = false := by simp; omega
    have q4 : (k == 4) = false := by simp; omega
    have q5 : (k == 5) = false := by simp; omega
    have q6 : (k == 6) = false := by simp; omega
    have q7 : (k == 7) = false := by simp; omega
    have q8 : (k == 8) = false := by simp; omega
    have HRR : Hid (R = false) := Lib.hid (by rw [HRG.out]; first | (simp [rgb, *]; done) | (simp [rgb, *]; omega) | (simp [rgb]; omega))
    go_wp2
    go_ret
    exact ⟨retB HRR.out.symm, B2.out⟩
end Go.Proofs.YtabcehifdomolaaDoor.Eg
namespace Go.Proofs.YtabcehifdomolaaDoor.Rg
open Go.RowKit Go.Proofs.YtabcehifdomolaaDoor.Vm Go.Proofs.YtabcehifdomolaaDoor.Vo Go.Proofs.YtabcehifdomolaaDoor.Bw Go.Proofs.YtabcehifdomolaaDoor.Na Go.Proofs.YtabcehifdomolaaDoor.Tm Go.Proofs.YtabcehifdomolaaDoor.Ta Go.Proofs.YtabcehifdomolaaDoor.Tb Go.Proofs.YtabcehifdomolaaDoor.Tf Go.Proofs.YtabcehifdomolaaDoor.Tj Go.Proofs.YtabcehifdomolaaDoor.Rm Go.Proofs.YtabcehifdomolaaDoor.Rv Go.Proofs.YtabcehifdomolaaDoor.Ra Go.Proofs.YtabcehifdomolaaDoor.Re Go.Proofs.YtabcehifdomolaaDoor.Rf

/-- What Check says: 0 or 4. -/
def checkI (l : List Nd) : Int := if l.length ≤ 400 ∧ endI l 0 = (l.length : Int) ∧ ∀ x ∈ l, right x then 0 else 4
theorem checkI_big {l : List Nd} (h : ¬ l.length ≤ 400) : checkI l = 4 := if_neg (fun c => h c.1)
theorem checkI_end {l : List Nd} (h : endI l 0 ≠ (l.length : Int)) : checkI l = 4 := if_neg (fun c => h c.2.1)
theorem checkI_node {l : List Nd} {i : Nat} {x : Nd} (hx : l[i]? = some x) (h : ¬ right x) : checkI l = 4 := if_neg (fun c => h (c.2.2 x (List.mem_of_getElem? hx)))
theorem checkI_ok {l : List Nd} (h1 : l.length ≤ 400) (h2 : endI l 0 = (l.length : Int)) (h3 : ∀ i x, i < l.length → l[i]? = some x → right x) : checkI l = 0 :=
  if_pos ⟨h1, h2, fun x hx => by
    obtain ⟨i, hi⟩ := List.mem_iff_getElem?.1 hx
    exact h3 i x (List.getElem?_eq_some_iff.1 hi).1 hi⟩
theorem endI_zero {l : List Nd} (h : l.length = 0) : endI l 0 ≠ (l.length : Int) := by
  obtain rfl : l = [] := List.eq_nil_of_length_eq_zero h
  decide
/-- Where it says 0 the nodes are a right tree's; and a right tree of at most 400 nodes is taken. -/
theorem checkI_iff {l : List Nd} (hs : ∀ x ∈ l, isSet x.s) : checkI l = 0 ↔ l.length ≤ 400 ∧ ∃ t, okT t ∧ l = enc t := by
  rw [← check_iff hs]
  unfold checkI endI
  rw [if_neg (show ¬ (0 : Int) < 0 by omega)]
  have e : endA 0 (endW l.length (l.drop (0 : Int).toNat) 1) = (l.length : Int) ↔ endW l.length l 1 = some l.length := by
    show endA 0 (endW l.length l 1) = _ ↔ _
    cases endW l.length l 1 with
    | none => constructor
              · intro h; exact absurd h (by show ¬ (-1 : Int) = _; omega)
              · intro h; cases h
    | some m => constructor
                · intro h
                  have h' : (0 : Int) + (m : Int) = (l.length : Int) := h
                  rw [show m = l.length by omega]
                · intro h
                  obtain rfl : m = l.length := by simpa using h
                  show (0 : Int) + _ = _
                  omega
  constructor
  · intro h
    split at h
    · rename_i c; exact ⟨c.1, e.1 c.2.1, c.2.2⟩
    · cases h
  · rintro ⟨h1, h2, h3⟩
    rw [if_pos ⟨h1, e.2 h2, h3⟩]

set_option maxHeartbeats 2000000 in
set_option maxRecDepth 100000 in
theorem rCheck_any {A : Option Addr} {cap : Nat} {l : List Nd} (hl : l.length ≤ 1000000) {w : World} (H : Hid (nds w A l)) :
    Calls Tryd.prog 9 #[.slice A l.length cap] w fun e w' => e = .returned (.int .i64 (checkI l)) ∧ Below w.heap.size w w' := by
  have HEnd : Hid (Calls Tryd.prog 13 #[.slice A l.length cap, .int .i64 0] w fun e w' => e = .returned (.int .i64 (endI l 0)) ∧ w = w') := Lib.hid (rEnd_any hl 0 (by omega) H)
  obtain ⟨N, hN⟩ : ∃ N, N = l.length := ⟨_, rfl⟩
  obtain ⟨E, hE⟩ : ∃ E, E = endI l 0 := ⟨_, rfl⟩
  obtain ⟨R, hR⟩ : ∃ R, R = checkI l := ⟨_, rfl⟩
  rw [← hN, ← hE] at HEnd
  rw [← hN, ← hR]
  rw [← hN] at hl
  have HN := Lib.hid hN
  have HE := Lib.hid hE
  have HR := Lib.hid hR
  clear hN hE hR
  by_cases h4 : 400 < N
  · have h4' : (400 : Int) < (N : Int) := by omega
    have HX : Hid (R = 4) := Lib.hid (by rw [HR.out, checkI_big (by rw [← HN.out]; omega)])
    go_enter Tryd.func9, Tryd.ntmps9
    go_wp2
    go_ret
    exact ⟨ret_i64 HX.out.symm, Below.refl _ _⟩
  · have h4' : ¬ (400 : Int) < (N : Int) := by omega
    by_cases he : E = (N : Int)
    · have hEN : (E == (N : Int)) = true := by simp [he]
      have hN0 : ((N : Int) == 0) = false := by
        rw [beq_eq_false_iff_ne]
        intro h0
        exact endI_zero (l := l) (by rw [← HN.out]; omega) (by rw [← HE.out, he, HN.out])
      have HEE := Lib.hid he
      have HHH : Hid (N ≤ 400) := Lib.hid (by omega)
      clear he h4
      go_enter Tryd.func9, Tryd.ntmps9
      go_wp2_with (go_at_call 13; refine HEnd.out.mono ?_; rintro e w9 ⟨rfl, rfl⟩)
      go_loopw [3] (fun s3 wr => ∃ j : Nat, s3 = .int .i64 (j : Int) ∧ j ≤ N ∧ Hid (∀ i x, i < j → l[i]? = some x → right x) ∧ Hid (Below w.heap.size w wr)) (fun s3 _ => N - (intOf s3).toNat)
      case atStart => exact ⟨0, rfl, by omega, Lib.hid (fun i x hi => absurd hi (by omega)), Lib.hid (Below.refl _ _)⟩
      case round =>
        obtain ⟨j, rfl, hj, HA, HB⟩ := hrel
        by_cases hjn : j < N
        · obtain ⟨x, hx⟩ : ∃ x, l[j]? = some x := ⟨_, List.getElem?_eq_getElem (by rw [← HN.out]; exact hjn)⟩
          have HJX := Lib.hid hx
          obtain ⟨b, off, rfl, hb, hp⟩ := (H.out.below HB.out) _ x hx
          have c0 := hp.c0
          have c1 := hp.c1
          have c6 := hp.c6
          have c7 := hp.c7
          obtain ⟨x0, x1, x2, x3, hs, c2, c3, c4, c5⟩ := hp.four
          obtain ⟨xk, xn, xs, xl, xh⟩ := x
          dsimp only at c0 c1 c6 c7 hs
          subst hs
          obtain ⟨rb, hrb⟩ : ∃ rb, rb = decide (right ⟨xk, xn, [x0, x1, x2, x3], xl, xh⟩) := ⟨_, rfl⟩
          have HRT : Hid (∀ w, Calls Tryd.prog 19 #[.agg #[.int .i64 xk, .int .i64 xn, .int .u64 (x0 : Int), .int .u64 (x1 : Int), .int .u64 (x2 : Int), .int .u64 (x3 : Int), .int .i64 xl, .int .i64 xh]] w fun e w' => e = .returned (.bool rb) ∧ Below w.heap.size w w') := Lib.hid (fun w => by rw [hrb]; exact rright_any _ _ _ _ _ _ _ _)
          have HRB := Lib.hid hrb
          have hj' : (j : Int) < (N : Int) := by omega
          have hj0 : (0 : Int) ≤ (j : Int) := by omega
          have HJN := Lib.hid hjn
          clear hx hp hrb hjn hb
          cases rb with
          | false =>
            have HX : Hid (R = 4) := Lib.hid (by rw [HR.out, checkI_node HJX.out (by simpa using HRB.out.symm)])
            go_wp2_with (go_at_call 19; refine (HRT.out _).mono ?_; rintro e w9 ⟨rfl, k9⟩; have K9 := Lib.hid k9; clear k9)
            go_ret
            exact ⟨ret_i64 HX.out.symm, grows HB.out K9.out⟩
          | true =>
            have HA' : Hid (∀ i x, i < j + 1 → l[i]? = some x → right x) := Lib.hid (fun i y hi hy => by
              rcases (show i < j ∨ i = j by omega) with h | rfl
              · exact HA.out i y h hy
              · rw [HJX.out] at hy
                obtain rfl := Option.some.inj hy
                simpa using HRB.out.symm)
            go_wp2_with (go_at_call 19; refine (HRT.out _).mono ?_; rintro e w9 ⟨rfl, k9⟩; have K9 := Lib.hid k9; clear k9)
            go_roundw
            case rel => exact ⟨j + 1, by go_num, by have := HJN.out; omega, HA', Lib.hid (grows HB.out K9.out)⟩
            case measure => have := HJN.out; simp [intOf]; omega
        · have hj' : ¬ (j : Int) < (N : Int) := by omega
          have HX : Hid (R = 0) := Lib.hid (by
            rw [HR.out, checkI_ok (by rw [← HN.out]; exact HHH.out) (by rw [← HE.out, HEE.out, HN.out]) (fun i x hi hx => HA.out i x (by have := HN.out; omega) hx)])
          go_wp2
          go_ret
          exact ⟨ret_i64 HX.out.symm, HB.out⟩
    · have hEN : (E == (N : Int)) = false := by simp [he]
      have HX : Hid (R = 4) := Lib.hid (by rw [HR.out, checkI_end (by rw [← HE.out, ← HN.out]; exact he)])
      clear he h4
      go_enter Tryd.func9, Tryd.ntmps9
      go_wp2_with (go_at_call 13; refine HEnd.out.mono ?_; rintro e w9 ⟨rfl, rfl⟩)
      go_ret
      exact ⟨ret_i64 HX.out.symm, Below.refl _ _⟩
end Go.Proofs.YtabcehifdomolaaDoor.Rg
namespace Go.Proofs.YtabcehifdomolaaDoor.Ec
open Go.RowKit Go.Proofs.YtabcehifdomolaaDoor.Vm Go.Proofs.YtabcehifdomolaaDoor.Vo Go.Proofs.YtabcehifdomolaaDoor.Bw Go.Proofs.YtabcehifdomolaaDoor.Na Go.Proofs.YtabcehifdomolaaDoor.Tm Go.Proofs.YtabcehifdomolaaDoor.Ta Go.Proofs.YtabcehifdomolaaDoor.Tb Go.Proofs.YtabcehifdomolaaDoor.Tf Go.Proofs.YtabcehifdomolaaDoor.Tj Go.Proofs.YtabcehifdomolaaDoor.Rm Go.Proofs.YtabcehifdomolaaDoor.Rv Go.Proofs.YtabcehifdomolaaDoor.Ra Go.Proofs.YtabcehifdomolaaDoor.Re Go.Proofs.YtabcehifdomolaaDoor.Rf Go.Proofs.YtabcehifdomolaaDoor.Rg Go.Proofs.YtabcehifdomolaaDoor.Eb Go.Proofs.YtabcehifdomolaaDoor.Eg

set_option maxHeartbeats 2000000 in
set_option maxRecDepth 100000 in
theorem Check_any {A : Option Addr} {cap : Nat} {l : List Nd} (hl : l.length ≤ 1000000) {w : World} (H : Hid (nds w A l)) :
    Calls Tryd.prog 8 #[.slice A l.length cap] w fun e w' => e = .returned (.int .i64 (checkI l)) ∧ Below w.heap.size w w' := by
  have HEnd : Hid (Calls Tryd.prog 12 #[.slice A l.length cap, .int .i64 0] w fun e w' => e = .returned (.int .i64 (endI l 0)) ∧ w = w') := Lib.hid (End_any hl 0 (by omega) H)
  obtain ⟨N, hN⟩ : ∃ N, N = l.length := ⟨_, rfl⟩
  obtain ⟨E, hE⟩ : ∃ E, E = endI l 0 := ⟨_, rfl⟩
  obtain ⟨R, hR⟩ : ∃ R, R = checkI l := ⟨_, rfl⟩
  rw [← hN, ← hE] at HEnd
  rw [← hN, ← hR]
  rw [← hN] at hl
  have HN := Lib.hid hN
  have HE := Lib.hid hE
  have HR := Lib.hid hR
  clear hN hE hR
  by_cases h4 : 400 < N
  · have h4' : (400 : Int) < (N : Int) := by omega
    have HX : Hid (R = 4) := Lib.hid (by rw [HR.out, checkI_big (by rw [← HN.out]; omega)])
    go_enter Tryd.func8, Tryd.ntmps8
    go_wp2
    go_ret
    exact ⟨ret_i64 HX.out.symm, Below.refl _ _⟩
  · have h4' : ¬ (400 : Int) < (N : Int) := by omega
    by_cases he : E = (N : Int)
    · have hEN : (E != (N : Int)) = false := by simp [he]
      have HEE := Lib.hid he
      have HHH : Hid (N ≤ 400) := Lib.hid (by omega)
      clear he h4
      go_enter Tryd.func8, Tryd.ntmps8
      go_wp2_with (go_at_call 12; refine HEnd.out.mono ?_; rintro e w9 ⟨rfl, rfl⟩)
      go_loopw [4, 17] (fun _ s3 wr => ∃ j : Nat, s3 = .int .i64 (j : Int) ∧ j ≤ N ∧ Hid (∀ i x, i < j → l[i]? = some x → right x) ∧ Hid (Below w.heap.size w wr)) (fun _ s3 _ => N - (intOf s3).toNat)
      case atStart => exact ⟨0, rfl, by omega, Lib.hid (fun i x hi => absurd hi (by omega)), Lib.hid (Below.refl _ _)⟩
      case round =>
        obtain ⟨j, rfl, hj, HA, HB⟩ := hrel
        by_cases hjn : j < N
        · obtain ⟨x, hx⟩ : ∃ x, l[j]? = some x := ⟨_, List.getElem?_eq_getElem (by rw [← HN.out]; exact hjn)⟩
          have HJX := Lib.hid hx
          obtain ⟨b, off, rfl, hb, hp⟩ := (H.out.below HB.out) _ x hx
          have c0 := hp.c0
          have c1 := hp.c1
          have c6 := hp.c6
          have c7 := hp.c7
          obtain ⟨x0, x1, x2, x3, hs, c2, c3, c4, c5⟩ := hp.four
          obtain ⟨xk, xn, xs, xl, xh⟩ := x
          dsimp only at c0 c1 c6 c7 hs
          subst hs
          obtain ⟨rb, hrb⟩ : ∃ rb, rb = decide (right ⟨xk, xn, [x0, x1, x2, x3], xl, xh⟩) := ⟨_, rfl⟩
          have HRT : Hid (∀ w, Calls Tryd.prog 18 #[.agg #[.int .i64 xk, .int .i64 xn, .int .u64 (x0 : Int), .int .u64 (x1 : Int), .int .u64 (x2 : Int), .int .u64 (x3 : Int), .int .i64 xl, .int .i64 xh]] w fun e w' => e = .returned (.bool rb) ∧ Below w.heap.size w w') := Lib.hid (fun w => by rw [hrb]; exact right_any _ _ _ _ _ _ _ _)
          have HRB := Lib.hid hrb
          have hj' : (j : Int) < (N : Int) := by omega
          have hj0 : (0 : Int) ≤ (j : Int) := by omega
          have HJN := Lib.hid hjn
          clear hx hp hrb hjn hb
          cases rb with
          | false =>
            have HX : Hid (R = 4) := Lib.hid (by rw [HR.out, checkI_node HJX.out (by simpa using HRB.out.symm)])
            go_wp2_with (go_at_call 18; refine (HRT.out _).mono ?_; rintro e w9 ⟨rfl, k9⟩; have K9 := Lib.hid k9; clear k9)
            go_ret
            exact ⟨ret_i64 HX.out.symm, grows (HB.out.alloc HB.out.size _) K9.out⟩
          | true =>
            have HA' : Hid (∀ i x, i < j + 1 → l[i]? = some x → right x) := Lib.hid (fun i y hi hy => by
              rcases (show i < j ∨ i = j by omega) with h | rfl
              · exact HA.out i y h hy
              · rw [HJX.out] at hy
                obtain rfl := Option.some.inj hy
                simpa using HRB.out.symm)
            go_wp2_with (go_at_call 18; refine (HRT.out _).mono ?_; rintro e w9 ⟨rfl, k9⟩; have K9 := Lib.hid k9; clear k9)
            go_roundw
            case rel => exact ⟨j + 1, by go_num, by have := HJN.out; omega, HA', Lib.hid (grows (HB.out.alloc HB.out.size _) K9.out)⟩
            case measure => have := HJN.out; simp [intOf]; omega
        · have hj' : ¬ (j : Int) < (N : Int) := by omega
          have HX : Hid (R = 0) := Lib.hid (by
            rw [HR.out, checkI_ok (by rw [← HN.out]; exact HHH.out) (by rw [← HE.out, HEE.out, HN.out]) (fun i x hi hx => HA.out i x (by have := HN.out; omega) hx)])
          go_wp2
          go_ret
          exact ⟨ret_i64 HX.out.symm, HB.out⟩
    · have hEN : (E == (N : Int)) = false := by simp [he]
      have HX : Hid (R = 4) := Lib.hid (by rw [HR.out, checkI_end (by rw [← HE.out, ← HN.out]; exact he)])
      clear he h4
      go_enter Tryd.func8, Tryd.ntmps8
      go_wp2_with (go_at_call 12; refine HEnd.out.mono ?_; rintro e w9 ⟨rfl, rfl⟩)
      go_ret
      exact ⟨ret_i64 HX.out.symm, Below.refl _ _⟩
end Go.Proofs.YtabcehifdomolaaDoor.Ec
namespace Go.Proofs.YtabcehifdomolaaDoor.Rh
open Go.RowKit Go.PlainAid Go.Proofs.YtabcehifdomolaaDoor.Vm Go.Proofs.YtabcehifdomolaaDoor.Vo Go.Proofs.YtabcehifdomolaaDoor.Bw Go.Proofs.YtabcehifdomolaaDoor.Na Go.Proofs.YtabcehifdomolaaDoor.Tm Go.Proofs.YtabcehifdomolaaDoor.Ta Go.Proofs.YtabcehifdomolaaDoor.Tb Go.Proofs.YtabcehifdomolaaDoor.Tf Go.Proofs.YtabcehifdomolaaDoor.Tj Go.Proofs.YtabcehifdomolaaDoor.Rm Go.Proofs.YtabcehifdomolaaDoor.Rv Go.Proofs.YtabcehifdomolaaDoor.Ra

set_option maxRecDepth 100000 in
theorem eq_four' (x0 x1 x2 x3 : Int) (w : World) :
    (Op.equalIn 9999 36 (.agg #[.int .u64 x0, .int .u64 x1, .int .u64 x2, .int .u64 x3]) (.agg #[.int .u64 x0, .int .u64 x1, .int .u64 x2, .int .u64 x3])).run Tryd.prog w = .ok true w := by
  have u3 := Tryd.underlying34
  have a3 := Tryd.isAgg34
  have z3 := Tryd.sizeOf34
  rw [show (9999 : Nat) = 9998 + 1 from rfl, Op.equalIn]
  simp only [Sem.run_bind, run_underlying Tryd.underlying36, Result.andThen_ok]
  simp only [Std.Legacy.Range.forIn_eq_forIn_range', Std.Legacy.Range.size, Nat.sub_zero, Nat.add_sub_cancel, Nat.div_one, List.range'_succ, List.range'_zero, List.forIn_cons, List.forIn_nil]
  go_simp
set_option maxRecDepth 100000 in
theorem eq_node (k n x0 x1 x2 x3 lo hi : Int) (u : World) :
    (Op.equalIn 10000 38 (.agg #[.int .i64 k, .int .i64 n, .int .u64 x0, .int .u64 x1, .int .u64 x2, .int .u64 x3, .int .i64 lo, .int .i64 hi]) (.agg #[.int .i64 k, .int .i64 n, .int .u64 x0, .int .u64 x1, .int .u64 x2, .int .u64 x3, .int .i64 lo, .int .i64 hi])).run Tryd.prog u = .ok true u := by
  have e4 := eq_four' x0 x1 x2 x3
  go_simp
theorem neq_node (k n x0 x1 x2 x3 lo hi : Int) (u : World) :
    (binOp .neq 38 (.agg #[.int .i64 k, .int .i64 n, .int .u64 x0, .int .u64 x1, .int .u64 x2, .int .u64 x3, .int .i64 lo, .int .i64 hi]) (.agg #[.int .i64 k, .int .i64 n, .int .u64 x0, .int .u64 x1, .int .u64 x2, .int .u64 x3, .int .i64 lo, .int .i64 hi])).run Tryd.prog u = .ok (.bool false) u := by
  have e4 := eq_four' x0 x1 x2 x3
  go_simp

set_option maxHeartbeats 1000000 in
set_option maxRecDepth 100000 in
theorem rSame_same {A1 A2 : Option Addr} {c1 c2 : Nat} {L : List Nd} {w : World} (h1 : nds w A1 L) (h2 : nds w A2 L) (hl : L.length ≤ 1000000) :
    Calls Tryd.prog 15 #[.slice A1 L.length c1, .slice A2 L.length c2] w fun e w' => e = .returned (.bool true) ∧ ∃ m, w' = w.drewN m := by
  obtain ⟨n, hn⟩ : ∃ n, n = L.length := ⟨_, rfl⟩
  have H1 := Lib.hid h1
  have H2 := Lib.hid h2
  have HN := Lib.hid hn
  rw [← hn]
  rw [← hn] at hl
  clear h1 h2 hn
  go_enter Tryd.func15, Tryd.ntmps15
  go_wp2
  go_loopw [5] (fun s5 wr => ∃ j : Nat, s5 = .int .i64 (j : Int) ∧ j ≤ n ∧ Hid (∃ q, wr = w.drewN q)) (fun s5 _ => n - (intOf s5).toNat)
  case atStart => exact ⟨0, rfl, Nat.zero_le _, Lib.hid ⟨0, rfl⟩⟩
  case round =>
    obtain ⟨j, rfl, hj, HW⟩ := hrel
    have HWB : Hid (Below w.heap.size w wr) := Lib.hid (by obtain ⟨q, hq⟩ := HW.out; rw [hq]; exact below_draws _ _)
    by_cases hjn : j < n
    · have hjn' : (j : Int) < (n : Int) := by omega
      have hj0 : (0 : Int) ≤ (j : Int) := by omega
      obtain ⟨x, ho⟩ : ∃ x, L[j]? = some x := ⟨_, List.getElem?_eq_getElem (by rw [← HN.out]; exact hjn)⟩
      obtain ⟨p1, o1, hA1, _, P1⟩ := (H1.out.below HWB.out) j x ho
      obtain ⟨p2, o2, hA2, _, P2⟩ := (H2.out.below HWB.out) j x ho
      subst hA1; subst hA2
      have a0 := P1.c0
      have a1 := P1.c1
      have a6 := P1.c6
      have a7 := P1.c7
      have b0 := P2.c0
      have b1 := P2.c1
      have b6 := P2.c6
      have b7 := P2.c7
      obtain ⟨x0, x1, x2, x3, hs, a2, a3, a4, a5⟩ := P1.four
      obtain ⟨y0, y1, y2, y3, hs', b2, b3, b4, b5⟩ := P2.four
      rw [hs] at hs'
      simp only [List.cons.injEq, and_true] at hs'
      obtain ⟨rfl, rfl, rfl, rfl⟩ := hs'
      obtain ⟨xk, xn, xs, xl, xh⟩ := x
      dsimp only at a0 a1 a6 a7 b0 b1 b6 b7
      obtain ⟨z0, hz0⟩ : ∃ z : Int, z = (x0 : Int) := ⟨_, rfl⟩
      obtain ⟨z1, hz1⟩ : ∃ z : Int, z = (x1 : Int) := ⟨_, rfl⟩
      obtain ⟨z2, hz2⟩ : ∃ z : Int, z = (x2 : Int) := ⟨_, rfl⟩
      obtain ⟨z3, hz3⟩ : ∃ z : Int, z = (x3 : Int) := ⟨_, rfl⟩
      rw [← hz0] at a2 b2
      rw [← hz1] at a3 b3
      rw [← hz2] at a4 b4
      rw [← hz3] at a5 b5
      have hq := fun u => neq_node xk xn z0 z1 z2 z3 xl xh u
      have e4 := eq_four' z0 z1 z2 z3
      clear ho hz0 hz1 hz2 hz3 hs P1 P2
      go_wp2
      go_quiet (fail)
      go_wp2
      go_roundw
      case rel => exact ⟨j + 1, by go_num, by omega, Lib.hid (by obtain ⟨q, hq⟩ := HW.out; exact ⟨_, by rw [hq, World.drewN_drewN]⟩)⟩
      case measure => simp [intOf]; omega
    · obtain rfl : j = n := by omega
      have hjn' : ¬ ((j : Int) < (j : Int)) := by omega
      go_wp2
      go_ret
      exact ⟨rfl, HW.out⟩
end Go.Proofs.YtabcehifdomolaaDoor.Rh
namespace Go.Proofs.YtabcehifdomolaaDoor.Ek
open Go.RowKit Go.PlainAid Go.Proofs.YtabcehifdomolaaDoor.Vm Go.Proofs.YtabcehifdomolaaDoor.Vo Go.Proofs.YtabcehifdomolaaDoor.Bw Go.Proofs.YtabcehifdomolaaDoor.Na Go.Proofs.YtabcehifdomolaaDoor.Tm Go.Proofs.YtabcehifdomolaaDoor.Ts Go.Proofs.YtabcehifdomolaaDoor.Ta Go.Proofs.YtabcehifdomolaaDoor.Tb Go.Proofs.YtabcehifdomolaaDoor.Tf Go.Proofs.YtabcehifdomolaaDoor.Tg Go.Proofs.YtabcehifdomolaaDoor.Rm Go.Proofs.YtabcehifdomolaaDoor.Rs Go.Proofs.YtabcehifdomolaaDoor.Ep Go.Proofs.YtabcehifdomolaaDoor.Em

structure kS (W u : World) (H L : Nat) (l : List Nat) : Prop where
  b : Blk u H 36 (sv zero)
  l : Blk u L 36 (sv l)
  w : Below W.heap.size W u
theorem kS.next {W u u' : World} {H L : Nat} {l : List Nat} (h : kS W u H L l) (k : Below u.heap.size u u') : kS W u' H L l := ⟨h.b.below k, h.l.below k, h.w.trans (k.mono h.w.size)⟩
theorem kS.drew {W u : World} {H L : Nat} {l : List Nat} (h : kS W u H L l) : kS W u.drew H L l := ⟨h.b, h.l, h.w.drew⟩
set_option maxHeartbeats 2000000 in
set_option maxRecDepth 100000 in
theorem meaning_any (s : ByteArray) (hs : s.size ≤ 1000000) (w : World) :
    Calls Tryd.prog 89 #[.string s] w fun e w' => e = .returned (setI (meanQ (rst s 0))) ∧ Below w.heap.size w w' := by
  obtain ⟨w1, hw1⟩ : ∃ w1, w1 = w.alloc (.cells #[.int .u64 0, .int .u64 0, .int .u64 0, .int .u64 0] 36) := ⟨_, rfl⟩
  have HR1 : Hid (Blk w1 w.heap.size 36 (sv zero)) := Lib.hid (by rw [hw1]; exact zero4 w)
  have HB1 : Hid (Below w.heap.size w w1) := Lib.hid (by rw [hw1]; exact below_alloc _ _)
  by_cases h0 : s.size = 0
  · have hR : rst s 0 = [] := rst_nil (by omega)
    have hE : s = ⟨#[]⟩ := ByteArray.ext (Array.eq_empty_of_size_eq_zero h0)
    rw [hR]
    have HQ : Hid (setI (meanQ []) = .tuple #[.agg (sv zero), .int .i64 0]) := Lib.hid rfl
    generalize setI (meanQ []) = Q at *
    subst hE
    clear h0 hR
    go_enter Tryd.func89, Tryd.ntmps89
    go_upto_region 1 with fail
    rw [← hw1]
    clear hw1
    go_wp2_with (refine wpList_store_row rfl 36 _ _ rfl w.heap.size (sv zero) rfl rfl _ _ HR1.out (fit (sv4 zero_set)) rfl (sv_one _) ?_)
    exact bodyPost_ret (results_cell2 rfl _ _ w.heap.size 36 (sv zero) _ _ rfl rfl (setRow_heap _ _ _ _ _ _ HR1.out) Tryd.underlying36 rfl (fit (sv4 zero_set))) rfl ⟨by rw [HQ.out]; rfl, Below_setRow HB1.out (Nat.le_refl _) _⟩
  obtain ⟨c, hc, hr, hbt⟩ := rst_cons (s := s) (a := 0) (by omega)
  have hne : s.toList.isEmpty = false := by
    rw [ByteArray.toList_eq]
    cases h : s.data.toList with
    | nil => exact absurd (by have := congrArg List.length h; rw [Array.length_toList] at this; exact this) h0
    | cons a l => rfl
  have hi0 : (0 : Int) < (s.size : Int) := by omega
  have hb := get_bt s
  generalize rst s (0 + 1) = r at hr
  have HN : Hid (∀ w, Calls Tryd.prog 96 #[.string s] w fun e w' => e = .returned (setI (numbQ r)) ∧ Below w.heap.size w w') := Lib.hid (fun w => numbered_any s hs hr w)
  rw [hr]
  clear h0 hr
  by_cases hc110 : c = 110
  · subst hc110
    have HO : Hid (∀ w, Calls Tryd.prog 54 #[.string ⟨#[10]⟩] w fun e w' => e = .returned (.agg (sv (one 10))) ∧ Below w.heap.size w w') := Lib.hid (fun w => by have := Of_any ⟨#[10]⟩ w (by decide); rw [show ofS (⟨#[10]⟩ : ByteArray).data.toList = (one 10) from rfl] at this; exact this)
    obtain ⟨z, hz⟩ : ∃ z, z = sv (one 10) := ⟨_, rfl⟩
    obtain ⟨hz4, hz1⟩ := set4 (one_set _) hz
    have HZ4 := Lib.hid hz4
    have HZ1 := Lib.hid hz1
    have HQ2 : Hid (setI (meanQ (110 :: r)) = .tuple #[.agg z, .int .i64 1]) := Lib.hid (by rw [hz]; rfl)
    generalize setI (meanQ (110 :: r)) = Q at *
    rw [← hz] at HO
    clear hz hz4 hz1
    go_enter Tryd.func89, Tryd.ntmps89
    go_upto_region 1 with fail
    rw [← hw1]
    clear hw1
    go_wp2_with (first | (go_at_call 54; refine (HO.out _).mono ?_; rintro e w3 ⟨rfl, k3⟩; have HR3 := Lib.hid (Blk.below HR1.out k3); have HB3 := Lib.hid (grows HB1.out k3); clear k3) | (refine wpList_store_row rfl 36 _ _ rfl w.heap.size z rfl rfl _ _ HR3.out (fit HZ4.out) (Eq.trans (sv4 zero_set) HZ4.out.symm) HZ1.out ?_))
    exact bodyPost_ret (results_cell2 rfl _ _ w.heap.size 36 z _ _ rfl rfl (setRow_heap _ _ _ _ _ _ HR3.out) Tryd.underlying36 rfl (fit HZ4.out)) rfl ⟨by rw [HQ2.out]; rfl, Below_setRow HB3.out (Nat.le_refl _) _⟩
  have n110 : ((c : Int) == 110) = false := by simp; omega
  by_cases hc116 : c = 116
  · subst hc116
    have HO : Hid (∀ w, Calls Tryd.prog 54 #[.string ⟨#[9]⟩] w fun e w' => e = .returned (.agg (sv (one 9))) ∧ Below w.heap.size w w') := Lib.hid (fun w => by have := Of_any ⟨#[9]⟩ w (by decide); rw [show ofS (⟨#[9]⟩ : ByteArray).data.toList = (one 9) from rfl] at this; exact this)
    obtain ⟨z, hz⟩ : ∃ z, z = sv (one 9) := ⟨_, rfl⟩
    obtain ⟨hz4, hz1⟩ := set4 (one_set _) hz
    have HZ4 := Lib.hid hz4
    have HZ1 := Lib.hid hz1
    have HQ2 : Hid (setI (meanQ (116 :: r)) = .tuple #[.agg z, .int .i64 1]) := Lib.hid (by rw [hz]; rfl)
    generalize setI (meanQ (116 :: r)) = Q at *
    rw [← hz] at HO
    clear hz hz4 hz1
    go_enter Tryd.func89, Tryd.ntmps89
    go_upto_region 1 with fail
    rw [← hw1]
    clear hw1
    go_wp2_with (first | (go_at_call 54; refine (HO.out _).mono ?_; rintro e w3 ⟨rfl, k3⟩; have HR3 := Lib.hid (Blk.below HR1.out k3); have HB3 := Lib.hid (grows HB1.out k3); clear k3) | (refine wpList_store_row rfl 36 _ _ rfl w.heap.size z rfl rfl _ _ HR3.out (fit HZ4.out) (Eq.trans (sv4 zero_set) HZ4.out.symm) HZ1.out ?_))
    exact bodyPost_ret (results_cell2 rfl _ _ w.heap.size 36 z _ _ rfl rfl (setRow_heap _ _ _ _ _ _ HR3.out) Tryd.underlying36 rfl (fit HZ4.out)) rfl ⟨by rw [HQ2.out]; rfl, Below_setRow HB3.out (Nat.le_refl _) _⟩
  have n116 : ((c : Int) == 116) = false := by simp; omega
  by_cases hc115 : c = 115
  · subst hc115
    have HO : Hid (∀ w, Calls Tryd.prog 54 #[.string ⟨#[32]⟩] w fun e w' => e = .returned (.agg (sv (one 32))) ∧ Below w.heap.size w w') := Lib.hid (fun w => by have := Of_any ⟨#[32]⟩ w (by decide); rw [show ofS (⟨#[32]⟩ : ByteArray).data.toList = (one 32) from rfl] at this; exact this)
    obtain ⟨z, hz⟩ : ∃ z, z = sv (one 32) := ⟨_, rfl⟩
    obtain ⟨hz4, hz1⟩ := set4 (one_set _) hz
    have HZ4 := Lib.hid hz4
    have HZ1 := Lib.hid hz1
    have HQ2 : Hid (setI (meanQ (115 :: r)) = .tuple #[.agg z, .int .i64 1]) := Lib.hid (by rw [hz]; rfl)
    generalize setI (meanQ (115 :: r)) = Q at *
    rw [← hz] at HO
    clear hz hz4 hz1
    go_enter Tryd.func89, Tryd.ntmps89
    go_upto_region 1 with fail
    rw [← hw1]
    clear hw1
    go_wp2_with (first | (go_at_call 54; refine (HO.out _).mono ?_; rintro e w3 ⟨rfl, k3⟩; have HR3 := Lib.hid (Blk.below HR1.out k3); have HB3 := Lib.hid (grows HB1.out k3); clear k3) | (refine wpList_store_row rfl 36 _ _ rfl w.heap.size z rfl rfl _ _ HR3.out (fit HZ4.out) (Eq.trans (sv4 zero_set) HZ4.out.symm) HZ1.out ?_))
    exact bodyPost_ret (results_cell2 rfl _ _ w.heap.size 36 z _ _ rfl rfl (setRow_heap _ _ _ _ _ _ HR3.out) Tryd.underlying36 rfl (fit HZ4.out)) rfl ⟨by rw [HQ2.out]; rfl, Below_setRow HB3.out (Nat.le_refl _) _⟩
  have n115 : ((c : Int) == 115) = false := by simp; omega
  by_cases hc100 : c = 100
  · subst hc100
    have HO : Hid (∀ w, Calls Tryd.prog 54 #[.string ⟨#[48, 49, 50, 51, 52, 53, 54, 55, 56, 57]⟩] w fun e w' => e = .returned (.agg (sv digS)) ∧ Below w.heap.size w w') := Lib.hid (fun w => by have := Of_any ⟨#[48, 49, 50, 51, 52, 53, 54, 55, 56, 57]⟩ w (by decide); rw [show ofS (⟨#[48, 49, 50, 51, 52, 53, 54, 55, 56, 57]⟩ : ByteArray).data.toList = digS from dig_of] at this; exact this)
    obtain ⟨z, hz⟩ : ∃ z, z = sv digS := ⟨_, rfl⟩
    obtain ⟨hz4, hz1⟩ := set4 (frm_set _ _) hz
    have HZ4 := Lib.hid hz4
    have HZ1 := Lib.hid hz1
    have HQ2 : Hid (setI (meanQ (100 :: r)) = .tuple #[.agg z, .int .i64 1]) := Lib.hid (by rw [hz]; rfl)
    generalize setI (meanQ (100 :: r)) = Q at *
    rw [← hz] at HO
    clear hz hz4 hz1
    go_enter Tryd.func89, Tryd.ntmps89
    go_upto_region 1 with fail
    rw [← hw1]
    clear hw1
    go_wp2_with (first | (go_at_call 54; refine (HO.out _).mono ?_; rintro e w3 ⟨rfl, k3⟩; have HR3 := Lib.hid (Blk.below HR1.out k3); have HB3 := Lib.hid (grows HB1.out k3); clear k3) | (refine wpList_store_row rfl 36 _ _ rfl w.heap.size z rfl rfl _ _ HR3.out (fit HZ4.out) (Eq.trans (sv4 zero_set) HZ4.out.symm) HZ1.out ?_))
    exact bodyPost_ret (results_cell2 rfl _ _ w.heap.size 36 z _ _ rfl rfl (setRow_heap _ _ _ _ _ _ HR3.out) Tryd.underlying36 rfl (fit HZ4.out)) rfl ⟨by rw [HQ2.out]; rfl, Below_setRow HB3.out (Nat.le_refl _) _⟩
  have n100 : ((c : Int) == 100) = false := by simp; omega
  by_cases hc119 : c = 119
  · subst hc119
    have HRa : Hid (∀ w, Calls Tryd.prog 78 #[.int .u8 65, .int .u8 90] w fun e w' => e = .returned (.agg (sv (frm 65 91))) ∧ Below w.heap.size w w') := Lib.hid (fun w => Range_any (x := 65) (y := 90) (by decide) (by decide) w)
    have HRb : Hid (∀ w, Calls Tryd.prog 78 #[.int .u8 97, .int .u8 122] w fun e w' => e = .returned (.agg (sv (frm 97 123))) ∧ Below w.heap.size w w') := Lib.hid (fun w => Range_any (x := 97) (y := 122) (by decide) (by decide) w)
    have HOa : Hid (∀ w, Calls Tryd.prog 87 #[.agg (sv (frm 65 91)), .agg (sv (frm 97 123))] w fun e w' => e = .returned (.agg (sv (orL (frm 65 91) (frm 97 123)))) ∧ Below w.heap.size w w') := Lib.hid (fun w => Or_any (frm_set _ _) (frm_set _ _) w)
    have HO : Hid (∀ w, Calls Tryd.prog 54 #[.string ⟨#[48, 49, 50, 51, 52, 53, 54, 55, 56, 57, 95]⟩] w fun e w' => e = .returned (.agg (sv (ofS [48, 49, 50, 51, 52, 53, 54, 55, 56, 57, 95]))) ∧ Below w.heap.size w w') := Lib.hid (fun w => Of_any ⟨#[48, 49, 50, 51, 52, 53, 54, 55, 56, 57, 95]⟩ w (by decide))
    have HOb : Hid (∀ w, Calls Tryd.prog 87 #[.agg (sv (orL (frm 65 91) (frm 97 123))), .agg (sv (ofS [48, 49, 50, 51, 52, 53, 54, 55, 56, 57, 95]))] w fun e w' => e = .returned (.agg (sv worS)) ∧ Below w.heap.size w w') := Lib.hid (fun w => by have := Or_any (orL_set (frm_set 65 91) (frm_set 97 123)) (ofS_set [48, 49, 50, 51, 52, 53, 54, 55, 56, 57, 95]) w; rw [wor_of] at this; exact this)
    obtain ⟨x0, x1, x2, x3, hx⟩ := four_of (orL_set (frm_set 65 91) (frm_set 97 123))
    obtain ⟨y0, y1, y2, y3, hy⟩ := four_of (show isSet worS from orL_set (one_set _) (orL_set (frm_set _ _) (orL_set (frm_set _ _) (frm_set _ _))))
    rw [hx] at HOa HOb
    rw [hy] at HOb
    have HQ2 : Hid (setI (meanQ (119 :: r)) = .tuple #[.agg (sv [y0, y1, y2, y3]), .int .i64 1]) := Lib.hid (by rw [← hy]; rfl)
    generalize setI (meanQ (119 :: r)) = Q at *
    generalize sv (frm 65 91) = za at *
    generalize sv (frm 97 123) = zb at *
    generalize sv (ofS [48, 49, 50, 51, 52, 53, 54, 55, 56, 57, 95]) = zc at *
    simp only [sv_four] at HOa HOb HQ2
    clear hx hy
    go_enter Tryd.func89, Tryd.ntmps89
    go_upto_region 1 with fail
    rw [← hw1]
    clear hw1
    go_wp2_with (first | (go_at_call 78; with_reducible refine (HRa.out _).mono ?_; rintro e w3 ⟨rfl, k3⟩; have HB3 := Lib.hid (grows HB1.out k3); have HR3 := Lib.hid (Blk.below HR1.out k3); clear k3) | (go_at_call 78; with_reducible refine (HRb.out _).mono ?_; rintro e w4 ⟨rfl, k4⟩; have HB4 := Lib.hid (grows HB3.out k4); have HR4 := Lib.hid (Blk.below HR3.out k4); clear k4) | (go_at_call 87; with_reducible refine (HOa.out _).mono ?_; rintro e w5 ⟨rfl, k5⟩; have HB5 := Lib.hid (grows HB4.out k5); have HR5 := Lib.hid (Blk.below HR4.out k5); clear k5))
    obtain ⟨w6, hw6⟩ : ∃ w6, w6 = w5.alloc (.cells #[.int .u64 (x0 : Int), .int .u64 (x1 : Int), .int .u64 (x2 : Int), .int .u64 (x3 : Int)] 36) := ⟨_, rfl⟩
    rw [← hw6]
    have HK := Lib.hid (show kS w w6.drew w.heap.size w5.heap.size [x0, x1, x2, x3] from by rw [hw6]; exact ⟨Blk.below HR5.out (below_alloc w5 _).drew, Blk.fresh w5 _ _, (HB5.out.alloc HB5.out.size _).drew⟩)
    clear hw6
    obtain ⟨c0, c1, c2, c3⟩ := cells4 HK.out.l
    go_region_with (first | (go_at_call 54; refine (HO.out _).mono ?_; rintro e w7 ⟨rfl, k7⟩; have HK := Lib.hid (HK.out.next k7); clear k7; obtain ⟨c0, c1, c2, c3⟩ := cells4 HK.out.l) | (go_at_call 87; with_reducible refine (HOb.out _).mono ?_; rintro e w8 ⟨rfl, k8⟩; have HK := Lib.hid (HK.out.next k8); clear k8; obtain ⟨d0, d1, d2, d3⟩ := cells4 HK.out.b; have f0 := HK.out.b.frozen 0; have f1 := HK.out.b.frozen 1; have f2 := HK.out.b.frozen 2; have f3 := HK.out.b.frozen 3))
    all_goals have H2 := Lib.hid (store4 (y0 := y0) (y1 := y1) (y2 := y2) (y3 := y3) HK.out.b)
    all_goals have HB := Lib.hid (below_only HK.out.w (only4 (w := w8) (g := w.heap.size) (.int .u64 (y0 : Int)) (.int .u64 (y1 : Int)) (.int .u64 (y2 : Int)) (.int .u64 (y3 : Int))) (Nat.le_refl _) HK.out.w.size)
    all_goals generalize (((w8.setCell ⟨w.heap.size, 0, none⟩ (.int .u64 (y0 : Int))).setCell ⟨w.heap.size, 1, none⟩ (.int .u64 (y1 : Int))).setCell ⟨w.heap.size, 2, none⟩ (.int .u64 (y2 : Int))).setCell ⟨w.heap.size, 3, none⟩ (.int .u64 (y3 : Int)) = w9 at *
    all_goals simp only [Exit.then]
    all_goals go_wp2
    all_goals exact bodyPost_ret (results_cell2 rfl _ _ w.heap.size 36 (sv [y0, y1, y2, y3]) _ _ rfl rfl H2.out Tryd.underlying36 rfl (fit rfl)) rfl ⟨by rw [HQ2.out]; rfl, HB.out⟩
  have n119 : ((c : Int) == 119) = false := by simp; omega
  by_cases hc120 : c = 120
  · subst hc120
    obtain ⟨Z, m, hZ, hZs⟩ : ∃ Z m, numbQ r = (Z, m) ∧ isSet Z := by
      refine ⟨(numbQ r).1, (numbQ r).2, rfl, ?_⟩
      unfold numbQ
      split
      · split
        · exact one_set _
        · exact zero_set
      · exact zero_set
    rw [hZ] at HN
    obtain ⟨z, hz⟩ : ∃ z, z = sv Z := ⟨_, rfl⟩
    obtain ⟨hz4, hz1⟩ := set4 (hZs) hz
    have HZ4 := Lib.hid hz4
    have HZ1 := Lib.hid hz1
    have HQ2 : Hid (setI (meanQ (120 :: r)) = .tuple #[.agg z, .int .i64 (m : Int)]) := Lib.hid (by rw [show meanQ (120 :: r) = numbQ r from rfl, hZ, hz]; rfl)
    generalize setI (meanQ (120 :: r)) = Q at *
    unfold setI at HN
    dsimp only at HN
    rw [← hz] at HN
    clear hz hz4 hz1 hZ
    go_enter Tryd.func89, Tryd.ntmps89
    go_upto_region 1 with fail
    rw [← hw1]
    clear hw1
    go_wp2_with (first | (go_at_call 96; refine (HN.out _).mono ?_; rintro e w3 ⟨rfl, k3⟩; have HR3 := Lib.hid (Blk.below HR1.out k3); have HB3 := Lib.hid (grows HB1.out k3); clear k3) | (refine wpList_store_row rfl 36 _ _ rfl w.heap.size z rfl rfl _ _ HR3.out (fit HZ4.out) (Eq.trans (sv4 zero_set) HZ4.out.symm) HZ1.out ?_))
    exact bodyPost_ret (results_cell2 rfl _ _ w.heap.size 36 z _ _ rfl rfl (setRow_heap _ _ _ _ _ _ HR3.out) Tryd.underlying36 rfl (fit HZ4.out)) rfl ⟨by rw [HQ2.out]; rfl, Below_setRow HB3.out (Nat.le_refl _) _⟩
  have n120 : ((c : Int) == 120) = false := by simp; omega
  have HI : Hid (∀ w, Calls Tryd.prog 55 #[.string maskB, .int .u8 c] w fun e w' => e = .returned (.int .i64 (ixM c)) ∧ w = w') := Lib.hid (fun w => Index_of maskB c w)
  have hix := ixM_is c hc
  have HQ : Hid (meanQ (c :: r) = if c ∈ maskL then (one c, 1) else (zero, 0)) := Lib.hid (by rw [meanQ, if_neg hc110, if_neg hc116, if_neg hc115, if_neg hc100, if_neg hc119, if_neg hc120])
  generalize ixM c = ix at *
  by_cases hm : c ∈ maskL
  · have hx0 : ¬ ix < 0 := by have := hix.2 hm; omega
    have HO : Hid (∀ w, Calls Tryd.prog 78 #[.int .u8 c, .int .u8 c] w fun e w' => e = .returned (.agg (sv (one c))) ∧ Below w.heap.size w w') := Lib.hid (fun w => by have := Range_any hc hc w; rw [frm_one hc] at this; exact this)
    obtain ⟨z, hz⟩ : ∃ z, z = sv (one c) := ⟨_, rfl⟩
    obtain ⟨hz4, hz1⟩ := set4 (one_set _) hz
    have HZ4 := Lib.hid hz4
    have HZ1 := Lib.hid hz1
    have HQ2 : Hid (setI (meanQ (c :: r)) = .tuple #[.agg z, .int .i64 1]) := Lib.hid (by rw [HQ.out, if_pos hm, hz]; rfl)
    generalize setI (meanQ (c :: r)) = Q at *
    rw [← hz] at HO
    clear hz hz4 hz1 hix hm
    go_enter Tryd.func89, Tryd.ntmps89
    go_upto_region 1 with fail
    rw [← hw1]
    clear hw1
    go_wp2_with (first | (go_at_call 55; refine (HI.out _).mono ?_; rintro e w2 ⟨rfl, rfl⟩) | (go_at_call 78; refine (HO.out _).mono ?_; rintro e w3 ⟨rfl, k3⟩; have HR3 := Lib.hid (Blk.below HR1.out k3); have HB3 := Lib.hid (grows HB1.out k3); clear k3) | (refine wpList_store_row rfl 36 _ _ rfl w.heap.size z rfl rfl _ _ HR3.out (fit HZ4.out) (Eq.trans (sv4 zero_set) HZ4.out.symm) HZ1.out ?_))
    exact bodyPost_ret (results_cell2 rfl _ _ w.heap.size 36 z _ _ rfl rfl (setRow_heap _ _ _ _ _ _ HR3.out) Tryd.underlying36 rfl (fit HZ4.out)) rfl ⟨by rw [HQ2.out]; rfl, Below_setRow HB3.out (Nat.le_refl _) _⟩
  · have hx0 : ix < 0 := by
      rcases (show ix < 0 ∨ 0 ≤ ix by omega) with h | h
      · exact h
      · exact absurd (hix.1 h) hm
    have HQ2 : Hid (setI (meanQ (c :: r)) = .tuple #[.agg (sv zero), .int .i64 0]) := Lib.hid (by rw [HQ.out, if_neg hm]; rfl)
    generalize setI (meanQ (c :: r)) = Q at *
    clear hix hm
    go_enter Tryd.func89, Tryd.ntmps89
    go_upto_region 1 with fail
    rw [← hw1]
    clear hw1
    go_wp2_with (first | (go_at_call 55; refine (HI.out _).mono ?_; rintro e w2 ⟨rfl, rfl⟩) | (refine wpList_store_row rfl 36 _ _ rfl w.heap.size (sv zero) rfl rfl _ _ HR1.out (fit (sv4 zero_set)) rfl (sv_one _) ?_))
    exact bodyPost_ret (results_cell2 rfl _ _ w.heap.size 36 (sv zero) _ _ rfl rfl (setRow_heap _ _ _ _ _ _ HR1.out) Tryd.underlying36 rfl (fit (sv4 zero_set))) rfl ⟨by rw [HQ2.out]; rfl, Below_setRow HB1.out (Nat.le_refl _) _⟩
end Go.Proofs.YtabcehifdomolaaDoor.Ek
namespace Go.Proofs.YtabcehifdomolaaDoor.Es
open Go.RowKit Go.PlainAid Go.Proofs.YtabcehifdomolaaDoor.Vm Go.Proofs.YtabcehifdomolaaDoor.Vo Go.Proofs.YtabcehifdomolaaDoor.Bw Go.Proofs.YtabcehifdomolaaDoor.Na Go.Proofs.YtabcehifdomolaaDoor.Tm Go.Proofs.YtabcehifdomolaaDoor.Ts Go.Proofs.YtabcehifdomolaaDoor.Ta Go.Proofs.YtabcehifdomolaaDoor.Tb Go.Proofs.YtabcehifdomolaaDoor.Tf Go.Proofs.YtabcehifdomolaaDoor.Rm Go.Proofs.YtabcehifdomolaaDoor.Rs Go.Proofs.YtabcehifdomolaaDoor.Ra Go.Proofs.YtabcehifdomolaaDoor.Ea Go.Proofs.YtabcehifdomolaaDoor.Ep Go.Proofs.YtabcehifdomolaaDoor.Em Go.Proofs.YtabcehifdomolaaDoor.Er Go.Proofs.YtabcehifdomolaaDoor.Eo

/-- A parser, and a block of the call's own. -/
structure bS (w u : World) (g : Nat) (s : ByteArray) (a : Nat) (c q : Int) (R : Nat) (T : TypeId) (z : Array Value) : Prop where
  p : par u g s a c q
  b : Blk u R T z
  o : Only (· = g) w u
theorem bS.next {w u u' : World} {g : Nat} {s : ByteArray} {a a' : Nat} {c q c' q' : Int} {R : Nat} {T : TypeId} {z : Array Value} (h : bS w u g s a c q R T z) (hR : w.heap.size ≤ R) (hg : g < w.heap.size) (p : par u' g s a' c' q') (o : Only (· = g) u u') : bS w u' g s a' c' q' R T z :=
  ⟨p, h.b.only o (by omega), h.o.trans o⟩
theorem bS.below {w u u' : World} {g : Nat} {s : ByteArray} {a : Nat} {c q : Int} {R : Nat} {T : TypeId} {z : Array Value} (h : bS w u g s a c q R T z) (k : Below u.heap.size u u') : bS w u' g s a c q R T z :=
  ⟨h.p.below k, h.b.below k, h.o.trans (Only.of_below k)⟩
theorem only_row {S : Nat → Prop} {w a : World} (h : Only S w a) {R : Nat} (hR : w.heap.size ≤ R) (z : Array Value) : Only S w (a.setRow R z) :=
  ⟨h.os, h.tape, h.output, by rw [setRow_size]; exact h.size, fun k hk hS => (setRow_other a R k z (by omega)).trans (h.block k hk hS)⟩
theorem par_row {w : World} {g : Nat} {s : ByteArray} {a : Nat} {c q : Int} (h : par w g s a c q) {R : Nat} (hR : g ≠ R) (z : Array Value) : par (w.setRow R z) g s a c q := (setRow_other w R g z hR).trans h
/-- A repetition's node. -/
def ndR (lo hi : Int) : Array Value := #[.int .i64 8, .int .i64 0, .int .u64 0, .int .u64 0, .int .u64 0, .int .u64 0, .int .i64 lo, .int .i64 hi]
theorem ndR_one (lo hi : Int) : (ndR lo hi).all (·.oneCell') = true := by simp [ndR, Value.oneCell']
def nd0 : Array Value := #[.int .i64 0, .int .i64 0, .int .u64 0, .int .u64 0, .int .u64 0, .int .u64 0, .int .i64 0, .int .i64 0]
theorem sizeNd : (Tryd.prog.info? 38).map (·.size) = some 8 := by kernel_rfl
/-- What bounds answers. -/
def bouA (s : ByteArray) (g K : Nat) (r1 : List Nat) (lo hi : Int) (w' : World) : Prop := in64 lo ∧ in64 hi ∧ outS (timP K r1) (fun x r => lo = (x.1 : Int) ∧ hi = x.2 ∧ live w' g s r) (fun e k => dead w' g s e k)
theorem tim_plain {K lo : Nat} {r r2 : List Nat} (h : numP r = .ok lo r2) (hc : ∀ r3, r2 ≠ 44 :: r3) : timP K r = endP K lo (lo : Int) r2 := by
  unfold timP
  rw [h]
  dsimp only
  split
  · next r3 => exact absurd rfl (hc r3)
  · rfl
theorem tim_comma {K lo : Nat} {r r3 : List Nat} (h : numP r = .ok lo (44 :: r3)) : timP K r = if r3.head? = some 125 then endP K lo (-1) r3 else match numP r3 with | .err e k => .err e k | .ok hi r4 => endP K lo (hi : Int) r4 := by
  unfold timP
  rw [h]
  rfl
/-- Behind the comma. -/
def midB (w wx : World) (g : Nat) (s : ByteArray) (R K lo : Nat) (hi : Int) (r1 : List Nat) : Prop :=
  (∃ e k, timP K r1 = .err e k ∧ e ≠ 0 ∧ bS w wx g s s.size (e : Int) ((s.size - k : Nat) : Int) R 38 nd0 ∧ in64 hi) ∨ (∃ a3 r3, (hi = -1 ∨ (0 ≤ hi ∧ hi ≤ 3000)) ∧ timP K r1 = endP K lo hi r3 ∧ a3 ≤ s.size ∧ rst s a3 = r3 ∧ bS w wx g s a3 0 0 R 38 nd0)
theorem end_bnd {K lo : Nat} {hi : Int} {r4 : List Nat} (h : hi = -1 ∨ (0 ≤ hi ∧ hi ≤ 3000)) : endP K lo hi (125 :: r4) = if bnd (lo : Int) hi = true then .ok (lo, hi) r4 else .err 18 K := by
  unfold endP
  dsimp only
  rw [if_pos rfl]
  unfold bnd
  by_cases h1 : hi = -1
  · subst h1
    rw [if_pos rfl]
    by_cases h2 : lo ≤ 30
    · rw [if_neg (by omega), if_pos (by simp; omega)]
    · rw [if_pos (by omega), if_neg (by simp; omega)]
  · rw [if_neg h1]
    by_cases h2 : (lo : Int) ≤ hi ∧ hi ≤ 30
    · rw [if_neg (by omega), if_pos (by simp; omega)]
    · rw [if_pos (by omega), if_neg (by simp; omega)]
set_option maxHeartbeats 4000000 in
set_option maxRecDepth 100000 in
theorem bounds_any {g : Nat} {s : ByteArray} {a : Nat} (hs : s.size ≤ 1000000) {r1 : List Nat} (hr : rst s a = 123 :: r1) {w : World} (H : Hid (par w g s a 0 0)) :
    Calls Tryd.prog 68 #[.pointer (some ⟨g, 0, none⟩)] w fun e w' => ∃ lo hi : Int, e = .returned (.agg (ndR lo hi)) ∧ bouA s g (r1.length + 1) r1 lo hi w' ∧ Only (· = g) w w' := by
  obtain ⟨hal, _, _, hr1⟩ := rst_next hr
  have hlen := rst_len s (a + 1)
  rw [hr1] at hlen
  have HG := Lib.hid H.out.lt
  obtain ⟨w0, hw0⟩ : ∃ w0, w0 = w.alloc (.cells #[.int .i64 0, .int .i64 0, .int .u64 0, .int .u64 0, .int .u64 0, .int .u64 0, .int .i64 0, .int .i64 0] 38) := ⟨_, rfl⟩
  have P0 : par w0 g s a 0 0 := by rw [hw0]; exact H.out.below (below_alloc _ _)
  have B0 : Blk w0 w.heap.size 38 nd0 := by rw [hw0]; exact Blk.fresh _ _ _
  have O0 : Only (· = g) w w0 := by rw [hw0]; exact (Only.refl _ _).alloc _
  obtain ⟨w1, hw1⟩ : ∃ w1, w1 = w0.setCell ⟨g, 1, none⟩ (.int .i64 ((a : Int) + 1)) := ⟨_, rfl⟩
  have HB0 : Hid (bS w w1 g s (a + 1) 0 0 w.heap.size 38 nd0) := Lib.hid (by
    rw [hw1]
    refine ⟨P0.step, B0.only (S := (· = g)) (Only.store (S := (· = g)) (Only.refl (· = g) w0) (p := ⟨g, 1, none⟩) (.inl rfl) _) (by have := HG.out; omega), O0.store (p := ⟨g, 1, none⟩) (.inl rfl) _⟩)
  have c1 := P0.c1
  have f1 := P0.frozen 1
  have ha1 : (a : Int) ≤ 1000000 := by omega
  have HA1 : Hid (a + 1 ≤ s.size) := Lib.hid hal
  have HLE : Hid (a + 1 + r1.length = s.size) := Lib.hid (by omega)
  have HNum : ∀ w, par w g s (a + 1) 0 0 → Calls Tryd.prog 79 #[.pointer (some ⟨g, 0, none⟩)] w fun e w' => ∃ n : Int, e = .returned (.int .i64 n) ∧ numA s g (a + 1) n w' ∧ Only (· = g) w w' := fun w h => number_any hs hal (Lib.hid h)
  unfold numA at HNum
  rw [hr1] at HNum
  have HBd : Hid (∀ lo hi w, Calls Tryd.prog 26 #[.int .i64 lo, .int .i64 hi] w fun e w' => e = .returned (.bool (bnd lo hi)) ∧ w = w') := Lib.hid bounded_any
  clear hr hal hlen P0 B0 O0
  cases hn : numP r1 with
  | err e1 k1 =>
    rw [hn] at HNum
    have HNN := Lib.hid HNum
    clear HNum
    have HE : Hid (timP (r1.length + 1) r1 = .err e1 k1) := Lib.hid (by unfold timP; rw [hn])
    clear hn
    go_enter Tryd.func68, Tryd.ntmps68
    go_upto_region 1 with fail
    rw [← hw0]
    clear hw0
    go_upto_region 3 with fail
    rw [← hw1]
    clear hw1 c1 f1
    go_wp2_with (first | (go_at_call 79; (with_reducible refine (HNN.out _ HB0.out.p).mono ?_); rintro e w2 ⟨n, rfl, ⟨rfl, hd, p⟩, o⟩; have HB1 := Lib.hid (HB0.out.next (Nat.le_refl _) HG.out p o); have HD := Lib.hid hd; clear hd; clear p o) | (go_at_call 34; (with_reducible refine (take_no hs (Nat.le_refl _) (nx_end (rst_size s)) HB1.out.p).mono ?_); rintro e w3 ⟨rfl, p, o⟩; have HB2 := Lib.hid (HB1.out.next (Nat.le_refl _) HG.out p o); clear p o) | (go_at_call 34; (with_reducible refine (take_no hs (Nat.le_refl _) (nx_end (rst_size s)) HB2.out.p).mono ?_); rintro e w4 ⟨rfl, p, o⟩; have HB3 := Lib.hid (HB2.out.next (Nat.le_refl _) HG.out p o); have d1 := HB3.out.p.c1; clear p o) | (go_at_call 23; (with_reducible refine (fail_late _ _ (by have := HD.out; omega) HB3.out.p).mono ?_); rintro e w5 ⟨rfl, p, o⟩; have HB4 := Lib.hid (HB3.out.next (Nat.le_refl _) HG.out p o); clear p o) | (go_at_call 26; refine (HBd.out _ _ _).mono ?_; rintro e w9 ⟨rfl, rfl⟩; rw [show bnd 0 0 = true from rfl]) | (refine wpList_store_row rfl 38 _ _ rfl w.heap.size (ndR 0 0) rfl rfl _ _ HB4.out.b sizeNd rfl (ndR_one _ _) ?_))
    refine bodyPost_ret (v := .agg (ndR 0 0)) (results_cell_row rfl _ _ w.heap.size 38 _ _ _ rfl (setRow_heap _ _ _ _ _ _ HB4.out.b) Tryd.underlying38 rfl sizeNd) rfl ?_
    refine ⟨0, 0, rfl, ⟨(by unfold in64; omega), (by unfold in64; omega), ?_⟩, only_row HB4.out.o (Nat.le_refl _) _⟩
    rw [HE.out]
    exact ⟨HD.out, (par_row HB4.out.p (by have := HG.out; omega) _)⟩
  | ok lo r2 =>
    rw [hn] at HNum
    have HNN : Hid (∀ w, par w g s (a + 1) 0 0 → Calls Tryd.prog 79 #[.pointer (some ⟨g, 0, none⟩)] w fun e w' => e = .returned (.int .i64 (lo : Int)) ∧ (lo ≤ 3000 ∧ ∃ a2, a2 ≤ s.size ∧ par w' g s a2 0 0 ∧ rst s a2 = r2) ∧ Only (· = g) w w') := Lib.hid (fun w h => (HNum w h).mono fun e w' ⟨n, h1, h2, h3⟩ => by
      obtain ⟨rfl, h4, a2, h5, h6, h7⟩ := h2
      exact ⟨h1, ⟨h4, a2, h5, h6, h7⟩, h3⟩)
    clear HNum
    have HN1 := Lib.hid hn
    clear hn
    go_enter Tryd.func68, Tryd.ntmps68
    go_upto_region 1 with fail
    rw [← hw0]
    clear hw0
    go_upto_region 3 with fail
    rw [← hw1]
    clear hw1 c1 f1
    go_upto_if 21 with (first | (go_at_call 79; (with_reducible refine (HNN.out _ HB0.out.p).mono ?_); rintro e w2 ⟨rfl, ⟨hl3, a2, ha2, p, hr2⟩, o⟩; have HB1 := Lib.hid (HB0.out.next (Nat.le_refl _) HG.out p o); have HL3 := Lib.hid hl3; have HR2 := Lib.hid hr2; have HA2 := Lib.hid ha2; have HTK := Lib.hid (take_any hs ha2 ⟨#[44]⟩ (Lib.hid p)); obtain ⟨tb, htb⟩ : ∃ tb, tb = nxQ ⟨#[44]⟩ (rst s a2) := ⟨_, rfl⟩; have HTB := Lib.hid htb; rw [← htb] at HTK; clear p o hl3 hr2 ha2 htb) | (go_at_call 34; (with_reducible refine HTK.out.mono ?_); rintro e w3 ⟨rfl, p, o⟩; have HB2 := Lib.hid (HB1.out.next (Nat.le_refl _) HG.out p o); clear p o))
    go_cut [5] (fun s5 wx => ∃ hi : Int, s5 = .int .i64 hi ∧ Hid (midB w wx g s w.heap.size (r1.length + 1) lo hi r1))
    case first =>
      cases tb with
      | false =>
        go_wp2
        go_meet
        refine ⟨(lo : Int), rfl, Lib.hid (.inr ⟨a2, r2, .inr ⟨by omega, by have := HL3.out; omega⟩, ?_, HA2.out, HR2.out, HB2.out⟩)⟩
        exact tim_plain HN1.out (fun r3 h => by have h2 := HTB.out; rw [nx_yes in_44 (by rw [HR2.out, h]) rfl] at h2; cases h2)
      | true =>
        obtain ⟨r3, hr3⟩ : ∃ r3, r2 = 44 :: r3 := by
          have h := HTB.out
          cases hq : r2 with
          | nil => rw [nx_end (by rw [HR2.out, hq])] at h; cases h
          | cons c r3 =>
            have h2 := HR2.out
            rw [hq] at h2
            by_cases hc : c = 44
            · exact ⟨r3, by rw [hc]⟩
            · rw [nx_no in_44 h2 hc] at h; cases h
        have h2 := HR2.out
        rw [hr3] at h2
        obtain ⟨ha3, _, _, hr3'⟩ := rst_next h2
        have HA3 : Hid (a2 + 1 ≤ s.size) := Lib.hid ha3
        have HR3 := Lib.hid hr3'
        have h1 := tim_comma (K := r1.length + 1) (show numP r1 = .ok lo (44 :: r3) by rw [HN1.out, hr3])
        have HT := Lib.hid h1
        have HB2 : Hid (bS w w3 g s (a2 + 1) 0 0 w.heap.size 38 nd0) := Lib.hid (by simpa using HB2.out)
        clear h1 hr3' ha3 h2 hr3
        by_cases hh : r3.head? = some 125
        · have hx : nxQ ⟨#[125]⟩ (rst s (a2 + 1)) = true := by
            cases hq : r3 with
            | nil => rw [hq] at hh; cases hh
            | cons c r4 =>
              rw [hq] at hh
              obtain rfl : c = 125 := by simpa using hh
              exact nx_yes in_125 (by rw [HR3.out, hq]) rfl
          have HNX := Lib.hid (next_is hx HB2.out.p)
          have HTT : Hid (timP (r1.length + 1) r1 = endP (r1.length + 1) lo (-1) r3) := Lib.hid (by rw [HT.out, if_pos hh])
          clear hx hh
          go_wp2_with (go_at_call 50; (with_reducible refine HNX.out.mono ?_); rintro e w4 ⟨rfl, p, o⟩; have HB3 := Lib.hid (HB2.out.next (Nat.le_refl _) HG.out p o); clear p o)
          go_meet
          exact ⟨-1, rfl, Lib.hid (.inr ⟨a2 + 1, r3, .inl rfl, HTT.out, HA3.out, HR3.out, HB3.out⟩)⟩
        · have hx : nxQ ⟨#[125]⟩ (rst s (a2 + 1)) = false := by
            cases hq : r3 with
            | nil => exact nx_end (by rw [HR3.out, hq])
            | cons c r4 =>
              rw [hq] at hh
              exact nx_no in_125 (by rw [HR3.out, hq]) (by simpa using hh)
          have HNX := Lib.hid (next_is hx HB2.out.p)
          have HTT : Hid (timP (r1.length + 1) r1 = match numP r3 with | .err e k => .err e k | .ok hi r4 => endP (r1.length + 1) lo (hi : Int) r4) := Lib.hid (by rw [HT.out, if_neg hh])
          have HNu : Hid (∀ w, par w g s (a2 + 1) 0 0 → Calls Tryd.prog 79 #[.pointer (some ⟨g, 0, none⟩)] w fun e w' => ∃ n : Int, e = .returned (.int .i64 n) ∧ numA s g (a2 + 1) n w' ∧ Only (· = g) w w') := Lib.hid (fun w h => number_any hs HA3.out (Lib.hid h))
          clear hx hh
          go_wp2_with (first | (go_at_call 50; (with_reducible refine HNX.out.mono ?_); rintro e w4 ⟨rfl, p, o⟩; have HB3 := Lib.hid (HB2.out.next (Nat.le_refl _) HG.out p o); clear p o) | (go_at_call 79; (with_reducible refine (HNu.out _ HB3.out.p).mono ?_); rintro e w5 ⟨n, rfl, hA, o⟩; have HNA := Lib.hid hA; have HO5 := Lib.hid o; clear hA o))
          go_meet
          have hA := HNA.out
          unfold numA at hA
          rw [HR3.out] at hA
          have hT := HTT.out
          cases hq : numP r3 with
          | err e k =>
            rw [hq] at hA hT
            obtain ⟨rfl, hd, p⟩ := hA
            exact ⟨0, rfl, Lib.hid (.inl ⟨e, k, hT, hd, HB3.out.next (Nat.le_refl _) HG.out p HO5.out, by unfold in64; omega⟩)⟩
          | ok hi r4 =>
            rw [hq] at hA hT
            obtain ⟨rfl, h3, a4, ha4, p, hr4⟩ := hA
            exact ⟨(hi : Int), rfl, Lib.hid (.inr ⟨a4, r4, .inr ⟨by omega, by omega⟩, hT, ha4, hr4, HB3.out.next (Nat.le_refl _) HG.out p HO5.out⟩)⟩
    case rest =>
      obtain ⟨hi, rfl, HM⟩ := hcut
      generalize wc = wc at *
      have HI := HM.out
      clear HM HB0 HB1 HB2 HTK HTB HNN HR2 HA2
      rcases HI with ⟨e, k, hT, hd, hb, hi6⟩ | ⟨a3, r3, hhi, hT, ha3, hr3, hb⟩
      · have HB5 := Lib.hid hb
        have HD := Lib.hid hd
        have HT := Lib.hid hT
        have HI6 := Lib.hid hi6
        clear hb hd hT hi6
        obtain ⟨bb, hbb⟩ : ∃ bb, bb = bnd (lo : Int) hi := ⟨_, rfl⟩
        have HBD : Hid (∀ w, Calls Tryd.prog 26 #[.int .i64 (lo : Int), .int .i64 hi] w fun e w' => e = .returned (.bool bb) ∧ w = w') := Lib.hid (fun w => by rw [hbb]; exact bounded_any _ _ w)
        clear hbb
        cases bb with
        | true =>
          go_wp2_with (first | (go_at_call 34; (with_reducible refine (take_no hs (Nat.le_refl _) (nx_end (rst_size s)) HB5.out.p).mono ?_); rintro e w6 ⟨rfl, p, o⟩; have HB6 := Lib.hid (HB5.out.next (Nat.le_refl _) HG.out p o); have d1 := HB6.out.p.c1; clear p o) | (go_at_call 23; (with_reducible refine (fail_late _ _ (by have := HD.out; omega) HB6.out.p).mono ?_); rintro e w7 ⟨rfl, p, o⟩; have HB7 := Lib.hid (HB6.out.next (Nat.le_refl _) HG.out p o); clear p o) | (go_at_call 26; (with_reducible refine (HBD.out _).mono ?_); rintro e w9 ⟨rfl, rfl⟩) | (refine wpList_store_row rfl 38 _ _ rfl w.heap.size (ndR (lo : Int) hi) rfl rfl _ _ HB7.out.b sizeNd rfl (ndR_one _ _) ?_))
          refine bodyPost_ret (v := .agg (ndR (lo : Int) hi)) (results_cell_row rfl _ _ w.heap.size 38 _ _ _ rfl (setRow_heap _ _ _ _ _ _ HB7.out.b) Tryd.underlying38 rfl sizeNd) rfl ?_
          refine ⟨(lo : Int), hi, rfl, ⟨(by unfold in64; have := HL3.out; omega), HI6.out, ?_⟩, only_row HB7.out.o (Nat.le_refl _) _⟩
          rw [HT.out]
          exact ⟨HD.out, (par_row HB7.out.p (by have := HG.out; omega) _)⟩
        | false =>
          go_wp2_with (first | (go_at_call 34; (with_reducible refine (take_no hs (Nat.le_refl _) (nx_end (rst_size s)) HB5.out.p).mono ?_); rintro e w6 ⟨rfl, p, o⟩; have HB6 := Lib.hid (HB5.out.next (Nat.le_refl _) HG.out p o); have d1 := HB6.out.p.c1; clear p o) | (go_at_call 23; (with_reducible refine (fail_late _ _ (by have := HD.out; omega) HB6.out.p).mono ?_); rintro e w7 ⟨rfl, p, o⟩; have HB7 := Lib.hid (HB6.out.next (Nat.le_refl _) HG.out p o); clear p o) | (go_at_call 23; (with_reducible refine (fail_late _ _ (by have := HD.out; omega) HB7.out.p).mono ?_); rintro e w8 ⟨rfl, p, o⟩; have HB8 := Lib.hid (HB7.out.next (Nat.le_refl _) HG.out p o); clear p o) | (go_at_call 26; (with_reducible refine (HBD.out _).mono ?_); rintro e w9 ⟨rfl, rfl⟩) | (refine wpList_store_row rfl 38 _ _ rfl w.heap.size (ndR (lo : Int) hi) rfl rfl _ _ HB8.out.b sizeNd rfl (ndR_one _ _) ?_))
          refine bodyPost_ret (v := .agg (ndR (lo : Int) hi)) (results_cell_row rfl _ _ w.heap.size 38 _ _ _ rfl (setRow_heap _ _ _ _ _ _ HB8.out.b) Tryd.underlying38 rfl sizeNd) rfl ?_
          refine ⟨(lo : Int), hi, rfl, ⟨(by unfold in64; have := HL3.out; omega), HI6.out, ?_⟩, only_row HB8.out.o (Nat.le_refl _) _⟩
          rw [HT.out]
          exact ⟨HD.out, (par_row HB8.out.p (by have := HG.out; omega) _)⟩
      · have HB5 := Lib.hid hb
        have HT := Lib.hid hT
        have HR3 := Lib.hid hr3
        have HA3 := Lib.hid ha3
        have HI6 : Hid (in64 hi) := Lib.hid (by unfold in64; omega)
        have HHI := Lib.hid hhi
        have hl3 := rst_len s a3
        rw [hr3] at hl3
        have HL := Lib.hid hl3
        clear hb hT hr3 ha3 hhi hl3
        by_cases hx : nxQ ⟨#[125]⟩ (rst s a3) = true
        · obtain ⟨r4, hr4⟩ : ∃ r4, r3 = 125 :: r4 := by
            cases hq : r3 with
            | nil => rw [nx_end (by rw [HR3.out, hq])] at hx; cases hx
            | cons c r4 =>
              have h2 := HR3.out
              rw [hq] at h2
              by_cases hc : c = 125
              · exact ⟨r4, by rw [hc]⟩
              · rw [nx_no in_125 h2 hc] at hx; cases hx
          have h2 := HR3.out
          rw [hr4] at h2
          obtain ⟨ha4, _, _, hr5⟩ := rst_next h2
          have HA4 : Hid (a3 + 1 ≤ s.size) := Lib.hid ha4
          have HR5 := Lib.hid hr5
          have HTK := Lib.hid (take_yes hs HA3.out hx HB5.out.p)
          obtain ⟨bb, hbb⟩ : ∃ bb, bb = bnd (lo : Int) hi := ⟨_, rfl⟩
          have HBD : Hid (∀ w, Calls Tryd.prog 26 #[.int .i64 (lo : Int), .int .i64 hi] w fun e w' => e = .returned (.bool bb) ∧ w = w') := Lib.hid (fun w => by rw [hbb]; exact bounded_any _ _ w)
          have HTE : Hid (timP (r1.length + 1) r1 = if bb = true then .ok (lo, hi) r4 else .err 18 (r1.length + 1)) := Lib.hid (by rw [HT.out, hr4, hbb]; exact end_bnd HHI.out)
          clear h2 hr4 hr5 ha4 hbb hx
          cases bb with
          | true =>
            go_wp2_with (first | (go_at_call 34; (with_reducible refine HTK.out.mono ?_); rintro e w6 ⟨rfl, p, o⟩; have HB6 := Lib.hid (HB5.out.next (Nat.le_refl _) HG.out p o); clear p o) | (go_at_call 26; (with_reducible refine (HBD.out _).mono ?_); rintro e w9 ⟨rfl, rfl⟩) | (refine wpList_store_row rfl 38 _ _ rfl w.heap.size (ndR (lo : Int) hi) rfl rfl _ _ HB6.out.b sizeNd rfl (ndR_one _ _) ?_))
            refine bodyPost_ret (v := .agg (ndR (lo : Int) hi)) (results_cell_row rfl _ _ w.heap.size 38 _ _ _ rfl (setRow_heap _ _ _ _ _ _ HB6.out.b) Tryd.underlying38 rfl sizeNd) rfl ?_
            refine ⟨(lo : Int), hi, rfl, ⟨(by unfold in64; have := HL3.out; omega), HI6.out, ?_⟩, only_row HB6.out.o (Nat.le_refl _) _⟩
            rw [HTE.out]
            first | rw [if_pos rfl] | rw [if_pos trivial]
            exact ⟨rfl, rfl, a3 + 1, HA4.out, (par_row HB6.out.p (by have := HG.out; omega) _), HR5.out⟩
          | false =>
            go_wp2_with (first | (go_at_call 34; (with_reducible refine HTK.out.mono ?_); rintro e w6 ⟨rfl, p, o⟩; have HB6 := Lib.hid (HB5.out.next (Nat.le_refl _) HG.out p o); clear p o) | (go_at_call 26; (with_reducible refine (HBD.out _).mono ?_); rintro e w9 ⟨rfl, rfl⟩) | (go_at_call 23; (with_reducible refine (fail_first _ _ HB6.out.p).mono ?_); rintro e w7 ⟨rfl, p, o⟩; have HB7 := Lib.hid (HB6.out.next (Nat.le_refl _) HG.out p o); clear p o) | (refine wpList_store_row rfl 38 _ _ rfl w.heap.size (ndR (lo : Int) hi) rfl rfl _ _ HB7.out.b sizeNd rfl (ndR_one _ _) ?_))
            refine bodyPost_ret (v := .agg (ndR (lo : Int) hi)) (results_cell_row rfl _ _ w.heap.size 38 _ _ _ rfl (setRow_heap _ _ _ _ _ _ HB7.out.b) Tryd.underlying38 rfl sizeNd) rfl ?_
            refine ⟨(lo : Int), hi, rfl, ⟨(by unfold in64; have := HL3.out; omega), HI6.out, ?_⟩, only_row HB7.out.o (Nat.le_refl _) _⟩
            rw [HTE.out, if_neg (by decide)]
            exact dead_at (a := a) (by decide) (par_row HB7.out.p (by have := HG.out; omega) _) (by have := HLE.out; omega)
        · have hxf : nxQ ⟨#[125]⟩ (rst s a3) = false := by simpa using hx
          have HTK := Lib.hid (take_no hs HA3.out hxf HB5.out.p)
          have HTE : Hid (timP (r1.length + 1) r1 = .err 15 r3.length) := Lib.hid (by
            rw [HT.out]
            cases hq : r3 with
            | nil => rfl
            | cons c r4 =>
              have h2 := HR3.out
              rw [hq] at h2
              by_cases hc : c = 125
              · rw [nx_yes in_125 h2 hc] at hxf; cases hxf
              · unfold endP; dsimp only; rw [if_neg hc]; rfl)
          obtain ⟨bb, hbb⟩ : ∃ bb, bb = bnd (lo : Int) hi := ⟨_, rfl⟩
          have HBD : Hid (∀ w, Calls Tryd.prog 26 #[.int .i64 (lo : Int), .int .i64 hi] w fun e w' => e = .returned (.bool bb) ∧ w = w') := Lib.hid (fun w => by rw [hbb]; exact bounded_any _ _ w)
          clear hx hxf hbb
          cases bb with
          | true =>
            go_wp2_with (first | (go_at_call 34; (with_reducible refine HTK.out.mono ?_); rintro e w6 ⟨rfl, p, o⟩; have HB6 := Lib.hid (HB5.out.next (Nat.le_refl _) HG.out p o); have d1 := HB6.out.p.c1; clear p o) | (go_at_call 23; (with_reducible refine (fail_first _ _ HB6.out.p).mono ?_); rintro e w7 ⟨rfl, p, o⟩; have HB7 := Lib.hid (HB6.out.next (Nat.le_refl _) HG.out p o); clear p o) | (go_at_call 26; (with_reducible refine (HBD.out _).mono ?_); rintro e w9 ⟨rfl, rfl⟩) | (refine wpList_store_row rfl 38 _ _ rfl w.heap.size (ndR (lo : Int) hi) rfl rfl _ _ HB7.out.b sizeNd rfl (ndR_one _ _) ?_))
            refine bodyPost_ret (v := .agg (ndR (lo : Int) hi)) (results_cell_row rfl _ _ w.heap.size 38 _ _ _ rfl (setRow_heap _ _ _ _ _ _ HB7.out.b) Tryd.underlying38 rfl sizeNd) rfl ?_
            refine ⟨(lo : Int), hi, rfl, ⟨(by unfold in64; have := HL3.out; omega), HI6.out, ?_⟩, only_row HB7.out.o (Nat.le_refl _) _⟩
            rw [HTE.out]
            exact dead_at (a := a3) (by decide) (par_row HB7.out.p (by have := HG.out; omega) _) (by have := HL.out; have := HA3.out; omega)
          | false =>
            go_wp2_with (first | (go_at_call 34; (with_reducible refine HTK.out.mono ?_); rintro e w6 ⟨rfl, p, o⟩; have HB6 := Lib.hid (HB5.out.next (Nat.le_refl _) HG.out p o); have d1 := HB6.out.p.c1; clear p o) | (go_at_call 23; (with_reducible refine (fail_first _ _ HB6.out.p).mono ?_); rintro e w7 ⟨rfl, p, o⟩; have HB7 := Lib.hid (HB6.out.next (Nat.le_refl _) HG.out p o); clear p o) | (go_at_call 23; (with_reducible refine (fail_late _ _ (by decide) HB7.out.p).mono ?_); rintro e w8 ⟨rfl, p, o⟩; have HB8 := Lib.hid (HB7.out.next (Nat.le_refl _) HG.out p o); clear p o) | (go_at_call 26; (with_reducible refine (HBD.out _).mono ?_); rintro e w9 ⟨rfl, rfl⟩) | (refine wpList_store_row rfl 38 _ _ rfl w.heap.size (ndR (lo : Int) hi) rfl rfl _ _ HB8.out.b sizeNd rfl (ndR_one _ _) ?_))
            refine bodyPost_ret (v := .agg (ndR (lo : Int) hi)) (results_cell_row rfl _ _ w.heap.size 38 _ _ _ rfl (setRow_heap _ _ _ _ _ _ HB8.out.b) Tryd.underlying38 rfl sizeNd) rfl ?_
            refine ⟨(lo : Int), hi, rfl, ⟨(by unfold in64; have := HL3.out; omega), HI6.out, ?_⟩, only_row HB8.out.o (Nat.le_refl _) _⟩
            rw [HTE.out]
            exact dead_at (a := a3) (by decide) (par_row HB8.out.p (by have := HG.out; omega) _) (by have := HL.out; have := HA3.out; omega)
end Go.Proofs.YtabcehifdomolaaDoor.Es
