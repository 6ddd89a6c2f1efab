/-
  The reference's End.
  The reference's right: has a node what its kind asks.
  The program's End.
  The reference's Check.
  The program's bounded; two nodes compared.
  The program's right: has a node what its kind asks.
  The program's Check.
  Conditions: as each theorem says.
-/
import Derived.Test.YthjelilmlbbalaaPaj
import Derived.Deep.DeepCutAuto
import Derived.Test.YthjelilmlbbalaaPai
import Derived.Laws.StructEq
namespace Go.Proofs.Ythjelilmlbbalaa.Re
open Go.RowKit Go.Proofs.Ythjelilmlbbalaa.Vm Go.Proofs.Ythjelilmlbbalaa.Vo Go.Proofs.Ythjelilmlbbalaa.Bw Go.Proofs.Ythjelilmlbbalaa.Na Go.Proofs.Ythjelilmlbbalaa.Tm Go.Proofs.Ythjelilmlbbalaa.Ta Go.Proofs.Ythjelilmlbbalaa.Tb Go.Proofs.Ythjelilmlbbalaa.Tf Go.Proofs.Ythjelilmlbbalaa.Rm Go.Proofs.Ythjelilmlbbalaa.Rv Go.Proofs.Ythjelilmlbbalaa.Ra

theorem drop_at {α : Type} {l : List α} {i : Nat} {x : α} (h : l[i]? = some x) : l.drop i = x :: l.drop (i + 1) := by
  obtain ⟨hi, e⟩ := List.getElem?_eq_some_iff.1 h
  rw [List.drop_eq_getElem_cons hi, e]
set_option maxHeartbeats 2000000 in
set_option maxRecDepth 100000 in
theorem rEnd_any {A : Option Addr} {cap : Nat} {l : List Nd} (hl : l.length ≤ 1000000) (i : Int) (hi : i ≤ 9223372036854775807) {w : World} (H : Hid (nds w A l)) :
    Calls Try.prog 42 #[.slice A l.length cap, .int .i64 i] w fun e w' => e = .returned (.int .i64 (endI l i)) ∧ w = w' := by
  obtain ⟨N, hN⟩ : ∃ N, N = l.length := ⟨_, rfl⟩
  obtain ⟨E, hE⟩ : ∃ E, E = endI l i := ⟨_, rfl⟩
  rw [← hN, ← hE]
  rw [← hN] at hl
  have HN := Lib.hid hN
  have HE := Lib.hid hE
  clear hN hE
  by_cases h0 : i < 0
  · have he : Hid (E = -1) := Lib.hid (by rw [HE.out]; unfold endI; rw [if_pos h0])
    go_enter Try.func42, Try.ntmps42
    go_wp2
    go_ret
    exact ⟨ret_i64 he.out.symm, rfl⟩
  · obtain ⟨n, rfl⟩ := Int.eq_ofNat_of_zero_le (show 0 ≤ i by omega)
    have HQ : Hid (E = endA (n : Int) (endW N (l.drop n) 1)) := Lib.hid (by rw [HE.out, HN.out]; unfold endI; rw [if_neg h0, Int.toNat_natCast])
    clear h0
    have h0' : ¬ (n : Int) < 0 := by omega
    go_enter Try.func42, Try.ntmps42
    go_wp2
    go_loopw [5, 6] (fun s5 s6 wr => ∃ (m v : Nat), s5 = .int .i64 (v : Int) ∧ s6 = .int .i64 ((n + m : Nat) : Int) ∧ Hid (m = 0 ∨ n + m ≤ N) ∧ Hid (1 ≤ v ∧ v ≤ 1 + m * N) ∧ Hid (endW N (l.drop n) 1 = (endW N (l.drop (n + m)) v).map (· + m)) ∧ wr = w) (fun _ s6 _ => N - (intOf s6).toNat)
    case atStart => exact ⟨0, 1, rfl, rfl, Lib.hid (.inl rfl), Lib.hid (by omega), Lib.hid (by simp), rfl⟩
    case round =>
      obtain ⟨m, v, rfl, rfl, HM, HV, HEQ, rfl⟩ := hrel
      by_cases hk : n + m < N
      · obtain ⟨x, hx⟩ : ∃ x, l[n + m]? = some x := ⟨_, List.getElem?_eq_getElem (by rw [← HN.out]; exact hk)⟩
        obtain ⟨b, off, rfl, hb, hp⟩ := H.out _ x hx
        have c1 := hp.c1
        have hin := hp.ikn
        have HD := Lib.hid (drop_at hx)
        obtain ⟨k, hkk⟩ : ∃ k, k = n + m := ⟨_, rfl⟩
        obtain ⟨xn, hxn⟩ : ∃ xn, xn = x.n := ⟨_, rfl⟩
        rw [← hkk] at c1 hk HD HM HEQ
        rw [← hxn] at c1 hin
        have HXN := Lib.hid hxn
        have HKK := Lib.hid hkk
        rw [← hkk]
        unfold in64 at hin
        have hk' : (k : Int) < (N : Int) := by omega
        have hk0 : (0 : Int) ≤ (k : Int) := by omega
        clear hp hx hkk hxn
        have no : xn < 0 ∨ (N : Int) < xn → Hid (E = -1) := fun hb => Lib.hid (by
          rw [HQ.out, HEQ.out, HD.out, endW, ← HXN.out, if_pos hb]; rfl)
        rcases (show xn < 0 ∨ (¬ xn < 0 ∧ (N : Int) < xn) ∨ (¬ xn < 0 ∧ ¬ (N : Int) < xn) by omega) with h1 | ⟨h1, h2⟩ | ⟨h1, h2⟩
        · have NO := no (.inl h1)
          clear no
          go_wp2
          go_ret
          exact ⟨ret_i64 NO.out.symm, rfl⟩
        · have NO := no (.inr h2)
          clear no
          go_wp2
          go_ret
          exact ⟨ret_i64 NO.out.symm, rfl⟩
        · obtain ⟨c, rfl⟩ := Int.eq_ofNat_of_zero_le (show 0 ≤ xn by omega)
          obtain ⟨u, hu⟩ : ∃ u, u = v - 1 + c := ⟨_, rfl⟩
          have hv := HV.out
          have hbig : m * N ≤ 1000000000000 := Nat.le_trans (Nat.mul_le_mul (show m ≤ 1000000 by have := HKK.out; omega) hl) (by decide)
          obtain ⟨v1, hv1⟩ : ∃ v1, v1 = v - 1 := ⟨_, rfl⟩
          have HSt : Hid (endW N (l.drop n) 1 = if u = 0 then some (1 + m) else (endW N (l.drop (k + 1)) u).map (· + (m + 1))) := Lib.hid (by
            rw [HEQ.out, HD.out, endW, ← HXN.out, if_neg (by omega), Int.toNat_natCast, ← hu]
            split
            · rfl
            · rw [map_comm, Nat.add_comm 1 m])
          have HU : Hid (u ≤ 1 + (m + 1) * N) := Lib.hid (by rw [Nat.add_mul]; omega)
          have hw1 : wrap64 ((v : Int) - 1) = (v1 : Int) := by rw [wrap64_in (by omega) (by omega)]; omega
          have hw2 : wrap64 ((v1 : Int) + (c : Int)) = (u : Int) := by rw [wrap64_in (by omega) (by omega)]; omega
          clear no hu hv hbig hv1
          by_cases hz : u = 0
          · have hz' : ((u : Int) == 0) = true := by simp; exact hz
            have HR : Hid (E = ((k : Int) + 1)) := Lib.hid (by
              rw [HQ.out, HSt.out, if_pos hz]
              show (n : Int) + ((1 + m : Nat) : Int) = _
              have := HKK.out
              omega)
            clear hz
            go_wp2
            go_ret
            exact ⟨ret_i64 HR.out.symm, rfl⟩
          · have hz' : ((u : Int) == 0) = false := by simp; exact hz
            have HR : Hid (endW N (l.drop n) 1 = (endW N (l.drop (n + (m + 1))) u).map (· + (m + 1))) := Lib.hid (by
              rw [HSt.out, if_neg hz, HKK.out, Nat.add_assoc])
            have HZ := Lib.hid hz
            clear hz
            go_wp2
            go_roundw
            case rel => exact ⟨m + 1, u, congrArg (Value.int IntKind.i64) hw2, congrArg (Value.int IntKind.i64) (by have := HKK.out; omega), Lib.hid (.inr (by have := HKK.out; omega)), Lib.hid ⟨by have := HZ.out; omega, HU.out⟩, HR, trivial⟩
            case measure => have := HKK.out; simp [intOf]; omega
      · have HR : Hid (E = -1) := Lib.hid (by
          rw [HQ.out, HEQ.out, List.drop_eq_nil_of_le (by rw [← HN.out]; omega)]; rfl)
        have hk' : ¬ ((n + m : Nat) : Int) < (N : Int) := by omega
        go_wp2
        go_ret
        exact ⟨ret_i64 HR.out.symm, rfl⟩
end Go.Proofs.Ythjelilmlbbalaa.Re
namespace Go.Proofs.Ythjelilmlbbalaa.Rf
open Go.RowKit Go.Proofs.Ythjelilmlbbalaa.Vm Go.Proofs.Ythjelilmlbbalaa.Vo Go.Proofs.Ythjelilmlbbalaa.Bw Go.Proofs.Ythjelilmlbbalaa.Na Go.Proofs.Ythjelilmlbbalaa.Tm Go.Proofs.Ythjelilmlbbalaa.Ta Go.Proofs.Ythjelilmlbbalaa.Tb Go.Proofs.Ythjelilmlbbalaa.Tf Go.Proofs.Ythjelilmlbbalaa.Tj Go.Proofs.Ythjelilmlbbalaa.Rm Go.Proofs.Ythjelilmlbbalaa.Rv Go.Proofs.Ythjelilmlbbalaa.Ra

/-- right, the set told as a truth. -/
def rgb (k n lo hi : Int) (z : Bool) : Bool :=
  decide ((k = 1 ∧ n = 0 ∧ z = false ∧ lo = 0 ∧ hi = 0) ∨ (k = 2 ∧ n = 0 ∧ z = true ∧ lo = 0 ∧ hi = 0) ∨ ((k = 3 ∨ k = 4) ∧ 2 ≤ n ∧ z = true ∧ lo = 0 ∧ hi = 0)
    ∨ ((k = 5 ∨ k = 6 ∨ k = 7) ∧ n = 1 ∧ z = true ∧ lo = 0 ∧ hi = 0) ∨ (k = 8 ∧ n = 1 ∧ z = true ∧ 0 ≤ lo ∧ lo ≤ 30 ∧ (hi = -1 ∨ (lo ≤ hi ∧ hi ≤ 30))))
theorem retB {a b : Bool} (h : a = b) : Ending.returned (.bool a) = .returned (.bool b) := by rw [h]
instance (x : Nd) : Decidable (right x) := by unfold right; infer_instance
set_option maxHeartbeats 4000000 in
set_option maxRecDepth 100000 in
theorem rright_any (k n lo hi : Int) (x0 x1 x2 x3 : Nat) {w : World} :
    Calls Try.prog 43 #[.agg #[.int .i64 k, .int .i64 n, .int .u64 (x0 : Int), .int .u64 (x1 : Int), .int .u64 (x2 : Int), .int .u64 (x3 : Int), .int .i64 lo, .int .i64 hi]] w fun e w' => e = .returned (.bool (decide (right ⟨k, n, [x0, x1, x2, x3], lo, hi⟩))) ∧ Below w.heap.size w w' := by
  obtain ⟨w1, hw1⟩ : ∃ w1, w1 = w.alloc (.cells #[.int .i64 k, .int .i64 n, .int .u64 (x0 : Int), .int .u64 (x1 : Int), .int .u64 (x2 : Int), .int .u64 (x3 : Int), .int .i64 lo, .int .i64 hi] 79) := ⟨_, rfl⟩
  have B1 : Hid (Below w.heap.size w w1) := Lib.hid (by rw [hw1]; exact below_alloc _ _)
  have K1 : Hid (Blk w1 w.heap.size 79 #[.int .i64 k, .int .i64 n, .int .u64 (x0 : Int), .int .u64 (x1 : Int), .int .u64 (x2 : Int), .int .u64 (x3 : Int), .int .i64 lo, .int .i64 hi]) := Lib.hid (by rw [hw1]; exact Blk.fresh _ _ _)
  have d0 : w1.cell? ⟨w.heap.size, 0, none⟩ = some (.int .i64 k) := K1.out.cell 0
  have d1 : w1.cell? ⟨w.heap.size, 1, none⟩ = some (.int .i64 n) := K1.out.cell 1
  have d2 : w1.cell? ⟨w.heap.size, 2, none⟩ = some (.int .u64 (x0 : Int)) := K1.out.cell 2
  have d3 : w1.cell? ⟨w.heap.size, 3, none⟩ = some (.int .u64 (x1 : Int)) := K1.out.cell 3
  have d4 : w1.cell? ⟨w.heap.size, 4, none⟩ = some (.int .u64 (x2 : Int)) := K1.out.cell 4
  have d5 : w1.cell? ⟨w.heap.size, 5, none⟩ = some (.int .u64 (x3 : Int)) := K1.out.cell 5
  have d6 : w1.cell? ⟨w.heap.size, 6, none⟩ = some (.int .i64 lo) := K1.out.cell 6
  have d7 : w1.cell? ⟨w.heap.size, 7, none⟩ = some (.int .i64 hi) := K1.out.cell 7
  obtain ⟨zb, hzb⟩ : ∃ zb : Bool, zb = decide (([x0, x1, x2, x3] : List Nat) = zero) := ⟨_, rfl⟩
  have heq : ∀ w, (Op.equalIn 10000 64 (.agg #[.int .u64 (x0 : Int), .int .u64 (x1 : Int), .int .u64 (x2 : Int), .int .u64 (x3 : Int)]) (.agg #[.int .u64 0, .int .u64 0, .int .u64 0, .int .u64 0])).run Try.prog w = .ok zb w := fun w => by
    rw [eq_four, hzb]
    congr 1
    simp [zero]
    by_cases h0 : x0 = 0 <;> by_cases h1 : x1 = 0 <;> by_cases h2 : x2 = 0 <;> by_cases h3 : x3 = 0 <;> simp [h0, h1, h2, h3]
  obtain ⟨R, hR⟩ : ∃ R, R = decide (right ⟨k, n, [x0, x1, x2, x3], lo, hi⟩) := ⟨_, rfl⟩
  rw [← hR]
  have HRG : Hid (R = rgb k n lo hi zb) := Lib.hid (by
    rw [hR, hzb]
    unfold right rgb
    by_cases hz : ([x0, x1, x2, x3] : List Nat) = zero
    · simp [hz]
    · simp [hz])
  clear hzb hR
  rcases (show lo ≠ 0 ∨ (lo = 0 ∧ hi ≠ 0) ∨ (lo = 0 ∧ hi = 0) by omega) with g | ⟨g, g'⟩ | ⟨g, g'⟩
  · have q1 : (lo == 0) = false := by simp [g]
    go_enter Try.func43, Try.ntmps43
    go_upto_region 1 with fail
    rw [← hw1]
    clear hw1
    go_upto_region 3 with fail
    rcases (show k = 1 ∨ k = 2 ∨ k = 3 ∨ k = 4 ∨ k = 5 ∨ k = 6 ∨ k = 7 ∨ k = 8 ∨ (k ≠ 1 ∧ k ≠ 2 ∧ k ≠ 3 ∧ k ≠ 4 ∧ k ≠ 5 ∧ k ≠ 6 ∧ k ≠ 7 ∧ k ≠ 8) by omega) with e | e | e | e | e | e | e | e | ⟨e1, e2, e3, e4, e5, e6, e7, e8⟩
    · subst e
      by_cases hc2 : ¬ n = 0
      · have f2 : (n == 0) = false := by simp; omega
        have HRR : Hid (R = false) := Lib.hid (by rw [HRG.out]; first | (simp [rgb, *]; done) | (simp [rgb, *]; omega) | (simp [rgb]; omega))
        go_wp2
        go_ret
        exact ⟨retB HRR.out.symm, B1.out⟩
      · have f2 : (n == 0) = true := by simp; omega
        cases zb with
        | true =>
          have HRR : Hid (R = false) := Lib.hid (by rw [HRG.out]; first | (simp [rgb, *]; done) | (simp [rgb, *]; omega) | (simp [rgb]; omega))
          go_wp2
          go_ret
          exact ⟨retB HRR.out.symm, B1.out⟩
        | false =>
          have HRR : Hid (R = false) := Lib.hid (by rw [HRG.out]; first | (simp [rgb, *]; done) | (simp [rgb, *]; omega) | (simp [rgb]; omega))
          go_wp2
          go_ret
          exact ⟨retB HRR.out.symm, B1.out⟩
    · subst e
      by_cases hc2 : ¬ n = 0
      · have f2 : (n == 0) = false := by simp; omega
        have HRR : Hid (R = false) := Lib.hid (by rw [HRG.out]; first | (simp [rgb, *]; done) | (simp [rgb, *]; omega) | (simp [rgb]; omega))
        go_wp2
        go_ret
        exact ⟨retB HRR.out.symm, B1.out⟩
      · have f2 : (n == 0) = true := by simp; omega
        cases zb with
        | true =>
          have HRR : Hid (R = false) := Lib.hid (by rw [HRG.out]; first | (simp [rgb, *]; done) | (simp [rgb, *]; omega) | (simp [rgb]; omega))
          go_wp2
          go_ret
          exact ⟨retB HRR.out.symm, B1.out⟩
        | false =>
          have HRR : Hid (R = false) := Lib.hid (by rw [HRG.out]; first | (simp [rgb, *]; done) | (simp [rgb, *]; omega) | (simp [rgb]; omega))
          go_wp2
          go_ret
          exact ⟨retB HRR.out.symm, B1.out⟩
    · subst e
      by_cases hc2 : n < 2
      · have f2 : ¬ (2 : Int) ≤ n := by omega
        have HRR : Hid (R = false) := Lib.hid (by rw [HRG.out]; first | (simp [rgb, *]; done) | (simp [rgb, *]; omega) | (simp [rgb]; omega))
        go_wp2
        go_ret
        exact ⟨retB HRR.out.symm, B1.out⟩
      · have f2 : (2 : Int) ≤ n := by omega
        cases zb with
        | true =>
          have HRR : Hid (R = false) := Lib.hid (by rw [HRG.out]; first | (simp [rgb, *]; done) | (simp [rgb, *]; omega) | (simp [rgb]; omega))
          go_wp2
          go_ret
          exact ⟨retB HRR.out.symm, B1.out⟩
        | false =>
          have HRR : Hid (R = false) := Lib.hid (by rw [HRG.out]; first | (simp [rgb, *]; done) | (simp [rgb, *]; omega) | (simp [rgb]; omega))
          go_wp2
          go_ret
          exact ⟨retB HRR.out.symm, B1.out⟩
    · subst e
      by_cases hc2 : n < 2
      · have f2 : ¬ (2 : Int) ≤ n := by omega
        have HRR : Hid (R = false) := Lib.hid (by rw [HRG.out]; first | (simp [rgb, *]; done) | (simp [rgb, *]; omega) | (simp [rgb]; omega))
        go_wp2
        go_ret
        exact ⟨retB HRR.out.symm, B1.out⟩
      · have f2 : (2 : Int) ≤ n := by omega
        cases zb with
        | true =>
          have HRR : Hid (R = false) := Lib.hid (by rw [HRG.out]; first | (simp [rgb, *]; done) | (simp [rgb, *]; omega) | (simp [rgb]; omega))
          go_wp2
          go_ret
          exact ⟨retB HRR.out.symm, B1.out⟩
        | false =>
          have HRR : Hid (R = false) := Lib.hid (by rw [HRG.out]; first | (simp [rgb, *]; done) | (simp [rgb, *]; omega) | (simp [rgb]; omega))
          go_wp2
          go_ret
          exact ⟨retB HRR.out.symm, B1.out⟩
    · subst e
      by_cases hc2 : ¬ n = 1
      · have f2 : (n == 1) = false := by simp; omega
        have HRR : Hid (R = false) := Lib.hid (by rw [HRG.out]; first | (simp [rgb, *]; done) | (simp [rgb, *]; omega) | (simp [rgb]; omega))
        go_wp2
        go_ret
        exact ⟨retB HRR.out.symm, B1.out⟩
      · have f2 : (n == 1) = true := by simp; omega
        cases zb with
        | true =>
          have HRR : Hid (R = false) := Lib.hid (by rw [HRG.out]; first | (simp [rgb, *]; done) | (simp [rgb, *]; omega) | (simp [rgb]; omega))
          go_wp2
          go_ret
          exact ⟨retB HRR.out.symm, B1.out⟩
        | false =>
          have HRR : Hid (R = false) := Lib.hid (by rw [HRG.out]; first | (simp [rgb, *]; done) | (simp [rgb, *]; omega) | (simp [rgb]; omega))
          go_wp2
          go_ret
          exact ⟨retB HRR.out.symm, B1.out⟩
    · subst e
      by_cases hc2 : ¬ n = 1
      · have f2 : (n == 1) = false := by simp; omega
        have HRR : Hid (R = false) := Lib.hid (by rw [HRG.out]; first | (simp [rgb, *]; done) | (simp [rgb, *]; omega) | (simp [rgb]; omega))
        go_wp2
        go_ret
        exact ⟨retB HRR.out.symm, B1.out⟩
      · have f2 : (n == 1) = true := by simp; omega
        cases zb with
        | true =>
          have HRR : Hid (R = false) := Lib.hid (by rw [HRG.out]; first | (simp [rgb, *]; done) | (simp [rgb, *]; omega) | (simp [rgb]; omega))
          go_wp2
          go_ret
          exact ⟨retB HRR.out.symm, B1.out⟩
        | false =>
          have HRR : Hid (R = false) := Lib.hid (by rw [HRG.out]; first | (simp [rgb, *]; done) | (simp [rgb, *]; omega) | (simp [rgb]; omega))
          go_wp2
          go_ret
          exact ⟨retB HRR.out.symm, B1.out⟩
    · subst e
      by_cases hc2 : ¬ n = 1
      · have f2 : (n == 1) = false := by simp; omega
        have HRR : Hid (R = false) := Lib.hid (by rw [HRG.out]; first | (simp [rgb, *]; done) | (simp [rgb, *]; omega) | (simp [rgb]; omega))
        go_wp2
        go_ret
        exact ⟨retB HRR.out.symm, B1.out⟩
      · have f2 : (n == 1) = true := by simp; omega
        cases zb with
        | true =>
          have HRR : Hid (R = false) := Lib.hid (by rw [HRG.out]; first | (simp [rgb, *]; done) | (simp [rgb, *]; omega) | (simp [rgb]; omega))
          go_wp2
          go_ret
          exact ⟨retB HRR.out.symm, B1.out⟩
        | false =>
          have HRR : Hid (R = false) := Lib.hid (by rw [HRG.out]; first | (simp [rgb, *]; done) | (simp [rgb, *]; omega) | (simp [rgb]; omega))
          go_wp2
          go_ret
          exact ⟨retB HRR.out.symm, B1.out⟩
    · subst e
      by_cases hc7 : ¬ n = 1
      · have f7 : (n == 1) = false := by simp; omega
        have HRR : Hid (R = false) := Lib.hid (by rw [HRG.out]; first | (simp [rgb, *]; done) | (simp [rgb, *]; omega) | (simp [rgb]; omega))
        go_wp2
        go_ret
        exact ⟨retB HRR.out.symm, B1.out⟩
      · have f7 : (n == 1) = true := by simp; omega
        cases zb with
        | true =>
          by_cases hc5 : lo < 0
          · have f5 : ¬ (0 : Int) ≤ lo := by omega
            have HRR : Hid (R = false) := Lib.hid (by rw [HRG.out]; first | (simp [rgb, *]; done) | (simp [rgb, *]; omega) | (simp [rgb]; omega))
            go_wp2
            go_ret
            exact ⟨retB HRR.out.symm, B1.out⟩
          · have f5 : (0 : Int) ≤ lo := by omega
            by_cases hc4 : 30 < lo
            · have f4 : ¬ lo ≤ 30 := by omega
              have HRR : Hid (R = false) := Lib.hid (by rw [HRG.out]; first | (simp [rgb, *]; done) | (simp [rgb, *]; omega) | (simp [rgb]; omega))
              go_wp2
              go_ret
              exact ⟨retB HRR.out.symm, B1.out⟩
            · have f4 : lo ≤ 30 := by omega
              by_cases hc3 : hi = -1
              · have f3 : (hi == -1) = true := by simp; omega
                have HRR : Hid (R = true) := Lib.hid (by rw [HRG.out]; first | (simp [rgb, *]; done) | (simp [rgb, *]; omega) | (simp [rgb]; omega))
                go_wp2
                go_ret
                exact ⟨retB HRR.out.symm, B1.out⟩
              · have f3 : (hi == -1) = false := by simp; omega
                by_cases hc2 : hi < lo
                · have f2 : ¬ lo ≤ hi := by omega
                  have HRR : Hid (R = false) := Lib.hid (by rw [HRG.out]; first | (simp [rgb, *]; done) | (simp [rgb, *]; omega) | (simp [rgb]; omega))
                  go_wp2
                  go_ret
                  exact ⟨retB HRR.out.symm, B1.out⟩
                · have f2 : lo ≤ hi := by omega
                  by_cases hc1 : 30 < hi
                  · have f1 : ¬ hi ≤ 30 := by omega
                    have HRR : Hid (R = false) := Lib.hid (by rw [HRG.out]; first | (simp [rgb, *]; done) | (simp [rgb, *]; omega) | (simp [rgb]; omega))
                    go_wp2
                    go_ret
                    exact ⟨retB HRR.out.symm, B1.out⟩
                  · have f1 : hi ≤ 30 := by omega
                    have HRR : Hid (R = true) := Lib.hid (by rw [HRG.out]; first | (simp [rgb, *]; done) | (simp [rgb, *]; omega) | (simp [rgb]; omega))
                    go_wp2
                    go_ret
                    exact ⟨retB HRR.out.symm, B1.out⟩
        | false =>
          have HRR : Hid (R = false) := Lib.hid (by rw [HRG.out]; first | (simp [rgb, *]; done) | (simp [rgb, *]; omega) | (simp [rgb]; omega))
          go_wp2
          go_ret
          exact ⟨retB HRR.out.symm, B1.out⟩
    · have u1 : (k == 1) = false := by simp; omega
      have u2 : (k == 2) = false := by simp; omega
      have u3 : (k == 3) = false := by simp; omega
      have u4 : (k == 4) = false := by simp; omega
      have u5 : (k == 5) = false := by simp; omega
      have u6 : (k == 6) = false := by simp; omega
      have u7 : (k == 7) = false := by simp; omega
      have u8 : (k == 8) = false := by simp; omega
      have HRR : Hid (R = false) := Lib.hid (by rw [HRG.out]; first | (simp [rgb, *]; done) | (simp [rgb, *]; omega) | (simp [rgb]; omega))
      go_wp2
      go_ret
      exact ⟨retB HRR.out.symm, B1.out⟩
  · subst g
    have q2 : (hi == 0) = false := by simp [g']
    go_enter Try.func43, Try.ntmps43
    go_upto_region 1 with fail
    rw [← hw1]
    clear hw1
    go_upto_region 3 with fail
    rcases (show k = 1 ∨ k = 2 ∨ k = 3 ∨ k = 4 ∨ k = 5 ∨ k = 6 ∨ k = 7 ∨ k = 8 ∨ (k ≠ 1 ∧ k ≠ 2 ∧ k ≠ 3 ∧ k ≠ 4 ∧ k ≠ 5 ∧ k ≠ 6 ∧ k ≠ 7 ∧ k ≠ 8) by omega) with e | e | e | e | e | e | e | e | ⟨e1, e2, e3, e4, e5, e6, e7, e8⟩
    · subst e
      by_cases hc2 : ¬ n = 0
      · have f2 : (n == 0) = false := by simp; omega
        have HRR : Hid (R = false) := Lib.hid (by rw [HRG.out]; first | (simp [rgb, *]; done) | (simp [rgb, *]; omega) | (simp [rgb]; omega))
        go_wp2
        go_ret
        exact ⟨retB HRR.out.symm, B1.out⟩
      · have f2 : (n == 0) = true := by simp; omega
        cases zb with
        | true =>
          have HRR : Hid (R = false) := Lib.hid (by rw [HRG.out]; first | (simp [rgb, *]; done) | (simp [rgb, *]; omega) | (simp [rgb]; omega))
          go_wp2
          go_ret
          exact ⟨retB HRR.out.symm, B1.out⟩
        | false =>
          have HRR : Hid (R = false) := Lib.hid (by rw [HRG.out]; first | (simp [rgb, *]; done) | (simp [rgb, *]; omega) | (simp [rgb]; omega))
          go_wp2
          go_ret
          exact ⟨retB HRR.out.symm, B1.out⟩
    · subst e
      by_cases hc2 : ¬ n = 0
      · have f2 : (n == 0) = false := by simp; omega
        have HRR : Hid (R = false) := Lib.hid (by rw [HRG.out]; first | (simp [rgb, *]; done) | (simp [rgb, *]; omega) | (simp [rgb]; omega))
        go_wp2
        go_ret
        exact ⟨retB HRR.out.symm, B1.out⟩
      · have f2 : (n == 0) = true := by simp; omega
        cases zb with
        | true =>
          have HRR : Hid (R = false) := Lib.hid (by rw [HRG.out]; first | (simp [rgb, *]; done) | (simp [rgb, *]; omega) | (simp [rgb]; omega))
          go_wp2
          go_ret
          exact ⟨retB HRR.out.symm, B1.out⟩
        | false =>
          have HRR : Hid (R = false) := Lib.hid (by rw [HRG.out]; first | (simp [rgb, *]; done) | (simp [rgb, *]; omega) | (simp [rgb]; omega))
          go_wp2
          go_ret
          exact ⟨retB HRR.out.symm, B1.out⟩
    · subst e
      by_cases hc2 : n < 2
      · have f2 : ¬ (2 : Int) ≤ n := by omega
        have HRR : Hid (R = false) := Lib.hid (by rw [HRG.out]; first | (simp [rgb, *]; done) | (simp [rgb, *]; omega) | (simp [rgb]; omega))
        go_wp2
        go_ret
        exact ⟨retB HRR.out.symm, B1.out⟩
      · have f2 : (2 : Int) ≤ n := by omega
        cases zb with
        | true =>
          have HRR : Hid (R = false) := Lib.hid (by rw [HRG.out]; first | (simp [rgb, *]; done) | (simp [rgb, *]; omega) | (simp [rgb]; omega))
          go_wp2
          go_ret
          exact ⟨retB HRR.out.symm, B1.out⟩
        | false =>
          have HRR : Hid (R = false) := Lib.hid (by rw [HRG.out]; first | (simp [rgb, *]; done) | (simp [rgb, *]; omega) | (simp [rgb]; omega))
          go_wp2
          go_ret
          exact ⟨retB HRR.out.symm, B1.out⟩
    · subst e
      by_cases hc2 : n < 2
      · have f2 : ¬ (2 : Int) ≤ n := by omega
        have HRR : Hid (R = false) := Lib.hid (by rw [HRG.out]; first | (simp [rgb, *]; done) | (simp [rgb, *]; omega) | (simp [rgb]; omega))
        go_wp2
        go_ret
        exact ⟨retB HRR.out.symm, B1.out⟩
      · have f2 : (2 : Int) ≤ n := by omega
        cases zb with
        | true =>
          have HRR : Hid (R = false) := Lib.hid (by rw [HRG.out]; first | (simp [rgb, *]; done) | (simp [rgb, *]; omega) | (simp [rgb]; omega))
          go_wp2
          go_ret
          exact ⟨retB HRR.out.symm, B1.out⟩
        | false =>
          have HRR : Hid (R = false) := Lib.hid (by rw [HRG.out]; first | (simp [rgb, *]; done) | (simp [rgb, *]; omega) | (simp [rgb]; omega))
          go_wp2
          go_ret
          exact ⟨retB HRR.out.symm, B1.out⟩
    · subst e
      by_cases hc2 : ¬ n = 1
      · have f2 : (n == 1) = false := by simp; omega
        have HRR : Hid (R = false) := Lib.hid (by rw [HRG.out]; first | (simp [rgb, *]; done) | (simp [rgb, *]; omega) | (simp [rgb]; omega))
        go_wp2
        go_ret
        exact ⟨retB HRR.out.symm, B1.out⟩
      · have f2 : (n == 1) = true := by simp; omega
        cases zb with
        | true =>
          have HRR : Hid (R = false) := Lib.hid (by rw [HRG.out]; first | (simp [rgb, *]; done) | (simp [rgb, *]; omega) | (simp [rgb]; omega))
          go_wp2
          go_ret
          exact ⟨retB HRR.out.symm, B1.out⟩
        | false =>
          have HRR : Hid (R = false) := Lib.hid (by rw [HRG.out]; first | (simp [rgb, *]; done) | (simp [rgb, *]; omega) | (simp [rgb]; omega))
          go_wp2
          go_ret
          exact ⟨retB HRR.out.symm, B1.out⟩
    · subst e
      by_cases hc2 : ¬ n = 1
      · have f2 : (n == 1) = false := by simp; omega
        have HRR : Hid (R = false) := Lib.hid (by rw [HRG.out]; first | (simp [rgb, *]; done) | (simp [rgb, *]; omega) | (simp [rgb]; omega))
        go_wp2
        go_ret
        exact ⟨retB HRR.out.symm, B1.out⟩
      · have f2 : (n == 1) = true := by simp; omega
        cases zb with
        | true =>
          have HRR : Hid (R = false) := Lib.hid (by rw [HRG.out]; first | (simp [rgb, *]; done) | (simp [rgb, *]; omega) | (simp [rgb]; omega))
          go_wp2
          go_ret
          exact ⟨retB HRR.out.symm, B1.out⟩
        | false =>
          have HRR : Hid (R = false) := Lib.hid (by rw [HRG.out]; first | (simp [rgb, *]; done) | (simp [rgb, *]; omega) | (simp [rgb]; omega))
          go_wp2
          go_ret
          exact ⟨retB HRR.out.symm, B1.out⟩
    · subst e
      by_cases hc2 : ¬ n = 1
      · have f2 : (n == 1) = false := by simp; omega
        have HRR : Hid (R = false) := Lib.hid (by rw [HRG.out]; first | (simp [rgb, *]; done) | (simp [rgb, *]; omega) | (simp [rgb]; omega))
        go_wp2
        go_ret
        exact ⟨retB HRR.out.symm, B1.out⟩
      · have f2 : (n == 1) = true := by simp; omega
        cases zb with
        | true =>
          have HRR : Hid (R = false) := Lib.hid (by rw [HRG.out]; first | (simp [rgb, *]; done) | (simp [rgb, *]; omega) | (simp [rgb]; omega))
          go_wp2
          go_ret
          exact ⟨retB HRR.out.symm, B1.out⟩
        | false =>
          have HRR : Hid (R = false) := Lib.hid (by rw [HRG.out]; first | (simp [rgb, *]; done) | (simp [rgb, *]; omega) | (simp [rgb]; omega))
          go_wp2
          go_ret
          exact ⟨retB HRR.out.symm, B1.out⟩
    · subst e
      by_cases hc5 : ¬ n = 1
      · have f5 : (n == 1) = false := by simp; omega
        have HRR : Hid (R = false) := Lib.hid (by rw [HRG.out]; first | (simp [rgb, *]; done) | (simp [rgb, *]; omega) | (simp [rgb]; omega))
        go_wp2
        go_ret
        exact ⟨retB HRR.out.symm, B1.out⟩
      · have f5 : (n == 1) = true := by simp; omega
        cases zb with
        | true =>
          by_cases hc3 : hi = -1
          · have f3 : (hi == -1) = true := by simp; omega
            have HRR : Hid (R = true) := Lib.hid (by rw [HRG.out]; first | (simp [rgb, *]; done) | (simp [rgb, *]; omega) | (simp [rgb]; omega))
            go_wp2
            go_ret
            exact ⟨retB HRR.out.symm, B1.out⟩
          · have f3 : (hi == -1) = false := by simp; omega
            by_cases hc2 : hi < 0
            · have f2 : ¬ (0 : Int) ≤ hi := by omega
              have HRR : Hid (R = false) := Lib.hid (by rw [HRG.out]; first | (simp [rgb, *]; done) | (simp [rgb, *]; omega) | (simp [rgb]; omega))
              go_wp2
              go_ret
              exact ⟨retB HRR.out.symm, B1.out⟩
            · have f2 : (0 : Int) ≤ hi := by omega
              by_cases hc1 : 30 < hi
              · have f1 : ¬ hi ≤ 30 := by omega
                have HRR : Hid (R = false) := Lib.hid (by rw [HRG.out]; first | (simp [rgb, *]; done) | (simp [rgb, *]; omega) | (simp [rgb]; omega))
                go_wp2
                go_ret
                exact ⟨retB HRR.out.symm, B1.out⟩
              · have f1 : hi ≤ 30 := by omega
                have HRR : Hid (R = true) := Lib.hid (by rw [HRG.out]; first | (simp [rgb, *]; done) | (simp [rgb, *]; omega) | (simp [rgb]; omega))
                go_wp2
                go_ret
                exact ⟨retB HRR.out.symm, B1.out⟩
        | false =>
          have HRR : Hid (R = false) := Lib.hid (by rw [HRG.out]; first | (simp [rgb, *]; done) | (simp [rgb, *]; omega) | (simp [rgb]; omega))
          go_wp2
          go_ret
          exact ⟨retB HRR.out.symm, B1.out⟩
    · have u1 : (k == 1) = false := by simp; omega
      have u2 : (k == 2) = false := by simp; omega
      have u3 : (k == 3) = false := by simp; omega
      have u4 : (k == 4) = false := by simp; omega
      have u5 : (k == 5) = false := by simp; omega
      have u6 : (k == 6) = false := by simp; omega
      have u7 : (k == 7) = false := by simp; omega
      have u8 : (k == 8) = false := by simp; omega
      have HRR : Hid (R = false) := Lib.hid (by rw [HRG.out]; first | (simp [rgb, *]; done) | (simp [rgb, *]; omega) | (simp [rgb]; omega))
      go_wp2
      go_ret
      exact ⟨retB HRR.out.symm, B1.out⟩
  · subst g
    subst g'
    go_enter Try.func43, Try.ntmps43
    go_upto_region 1 with fail
    rw [← hw1]
    clear hw1
    go_upto_region 3 with fail
    rcases (show k = 1 ∨ k = 2 ∨ k = 3 ∨ k = 4 ∨ k = 5 ∨ k = 6 ∨ k = 7 ∨ k = 8 ∨ (k ≠ 1 ∧ k ≠ 2 ∧ k ≠ 3 ∧ k ≠ 4 ∧ k ≠ 5 ∧ k ≠ 6 ∧ k ≠ 7 ∧ k ≠ 8) by omega) with e | e | e | e | e | e | e | e | ⟨e1, e2, e3, e4, e5, e6, e7, e8⟩
    · subst e
      by_cases hc2 : ¬ n = 0
      · have f2 : (n == 0) = false := by simp; omega
        have HRR : Hid (R = false) := Lib.hid (by rw [HRG.out]; first | (simp [rgb, *]; done) | (simp [rgb, *]; omega) | (simp [rgb]; omega))
        go_wp2
        go_ret
        exact ⟨retB HRR.out.symm, B1.out⟩
      · have f2 : (n == 0) = true := by simp; omega
        cases zb with
        | true =>
          have HRR : Hid (R = false) := Lib.hid (by rw [HRG.out]; first | (simp [rgb, *]; done) | (simp [rgb, *]; omega) | (simp [rgb]; omega))
          go_wp2
          go_ret
          exact ⟨retB HRR.out.symm, B1.out⟩
        | false =>
          have HRR : Hid (R = true) := Lib.hid (by rw [HRG.out]; first | (simp [rgb, *]; done) | (simp [rgb, *]; omega) | (simp [rgb]; omega))
          go_wp2
          go_ret
          exact ⟨retB HRR.out.symm, B1.out⟩
    · subst e
      by_cases hc2 : ¬ n = 0
      · have f2 : (n == 0) = false := by simp; omega
        have HRR : Hid (R = false) := Lib.hid (by rw [HRG.out]; first | (simp [rgb, *]; done) | (simp [rgb, *]; omega) | (simp [rgb]; omega))
        go_wp2
        go_ret
        exact ⟨retB HRR.out.symm, B1.out⟩
      · have f2 : (n == 0) = true := by simp; omega
        cases zb with
        | true =>
          have HRR : Hid (R = true) := Lib.hid (by rw [HRG.out]; first | (simp [rgb, *]; done) | (simp [rgb, *]; omega) | (simp [rgb]; omega))
          go_wp2
          go_ret
          exact ⟨retB HRR.out.symm, B1.out⟩
        | false =>
          have HRR : Hid (R = false) := Lib.hid (by rw [HRG.out]; first | (simp [rgb, *]; done) | (simp [rgb, *]; omega) | (simp [rgb]; omega))
          go_wp2
          go_ret
          exact ⟨retB HRR.out.symm, B1.out⟩
    · subst e
      by_cases hc2 : n < 2
      · have f2 : ¬ (2 : Int) ≤ n := by omega
        have HRR : Hid (R = false) := Lib.hid (by rw [HRG.out]; first | (simp [rgb, *]; done) | (simp [rgb, *]; omega) | (simp [rgb]; omega))
        go_wp2
        go_ret
        exact ⟨retB HRR.out.symm, B1.out⟩
      · have f2 : (2 : Int) ≤ n := by omega
        cases zb with
        | true =>
          have HRR : Hid (R = true) := Lib.hid (by rw [HRG.out]; first | (simp [rgb, *]; done) | (simp [rgb, *]; omega) | (simp [rgb]; omega))
          go_wp2
          go_ret
          exact ⟨retB HRR.out.symm, B1.out⟩
        | false =>
          have HRR : Hid (R = false) := Lib.hid (by rw [HRG.out]; first | (simp [rgb, *]; done) | (simp [rgb, *]; omega) | (simp [rgb]; omega))
          go_wp2
          go_ret
          exact ⟨retB HRR.out.symm, B1.out⟩
    · subst e
      by_cases hc2 : n < 2
      · have f2 : ¬ (2 : Int) ≤ n := by omega
        have HRR : Hid (R = false) := Lib.hid (by rw [HRG.out]; first | (simp [rgb, *]; done) | (simp [rgb, *]; omega) | (simp [rgb]; omega))
        go_wp2
        go_ret
        exact ⟨retB HRR.out.symm, B1.out⟩
      · have f2 : (2 : Int) ≤ n := by omega
        cases zb with
        | true =>
          have HRR : Hid (R = true) := Lib.hid (by rw [HRG.out]; first | (simp [rgb, *]; done) | (simp [rgb, *]; omega) | (simp [rgb]; omega))
          go_wp2
          go_ret
          exact ⟨retB HRR.out.symm, B1.out⟩
        | false =>
          have HRR : Hid (R = false) := Lib.hid (by rw [HRG.out]; first | (simp [rgb, *]; done) | (simp [rgb, *]; omega) | (simp [rgb]; omega))
          go_wp2
          go_ret
          exact ⟨retB HRR.out.symm, B1.out⟩
    · subst e
      by_cases hc2 : ¬ n = 1
      · have f2 : (n == 1) = false := by simp; omega
        have HRR : Hid (R = false) := Lib.hid (by rw [HRG.out]; first | (simp [rgb, *]; done) | (simp [rgb, *]; omega) | (simp [rgb]; omega))
        go_wp2
        go_ret
        exact ⟨retB HRR.out.symm, B1.out⟩
      · have f2 : (n == 1) = true := by simp; omega
        cases zb with
        | true =>
          have HRR : Hid (R = true) := Lib.hid (by rw [HRG.out]; first | (simp [rgb, *]; done) | (simp [rgb, *]; omega) | (simp [rgb]; omega))
          go_wp2
          go_ret
          exact ⟨retB HRR.out.symm, B1.out⟩
        | false =>
          have HRR : Hid (R = false) := Lib.hid (by rw [HRG.out]; first | (simp [rgb, *]; done) | (simp [rgb, *]; omega) | (simp [rgb]; omega))
          go_wp2
          go_ret
          exact ⟨retB HRR.out.symm, B1.out⟩
    · subst e
      by_cases hc2 : ¬ n = 1
      · have f2 : (n == 1) = false := by simp; omega
        have HRR : Hid (R = false) := Lib.hid (by rw [HRG.out]; first | (simp [rgb, *]; done) | (simp [rgb, *]; omega) | (simp [rgb]; omega))
        go_wp2
        go_ret
        exact ⟨retB HRR.out.symm, B1.out⟩
      · have f2 : (n == 1) = true := by simp; omega
        cases zb with
        | true =>
          have HRR : Hid (R = true) := Lib.hid (by rw [HRG.out]; first | (simp [rgb, *]; done) | (simp [rgb, *]; omega) | (simp [rgb]; omega))
          go_wp2
          go_ret
          exact ⟨retB HRR.out.symm, B1.out⟩
        | false =>
          have HRR : Hid (R = false) := Lib.hid (by rw [HRG.out]; first | (simp [rgb, *]; done) | (simp [rgb, *]; omega) | (simp [rgb]; omega))
          go_wp2
          go_ret
          exact ⟨retB HRR.out.symm, B1.out⟩
    · subst e
      by_cases hc2 : ¬ n = 1
      · have f2 : (n == 1) = false := by simp; omega
        have HRR : Hid (R = false) := Lib.hid (by rw [HRG.out]; first | (simp [rgb, *]; done) | (simp [rgb, *]; omega) | (simp [rgb]; omega))
        go_wp2
        go_ret
        exact ⟨retB HRR.out.symm, B1.out⟩
      · have f2 : (n == 1) = true := by simp; omega
        cases zb with
        | true =>
          have HRR : Hid (R = true) := Lib.hid (by rw [HRG.out]; first | (simp [rgb, *]; done) | (simp [rgb, *]; omega) | (simp [rgb]; omega))
          go_wp2
          go_ret
          exact ⟨retB HRR.out.symm, B1.out⟩
        | false =>
          have HRR : Hid (R = false) := Lib.hid (by rw [HRG.out]; first | (simp [rgb, *]; done) | (simp [rgb, *]; omega) | (simp [rgb]; omega))
          go_wp2
          go_ret
          exact ⟨retB HRR.out.symm, B1.out⟩
    · subst e
      by_cases hc2 : ¬ n = 1
      · have f2 : (n == 1) = false := by simp; omega
        have HRR : Hid (R = false) := Lib.hid (by rw [HRG.out]; first | (simp [rgb, *]; done) | (simp [rgb, *]; omega) | (simp [rgb]; omega))
        go_wp2
        go_ret
        exact ⟨retB HRR.out.symm, B1.out⟩
      · have f2 : (n == 1) = true := by simp; omega
        cases zb with
        | true =>
          have HRR : Hid (R = true) := Lib.hid (by rw [HRG.out]; first | (simp [rgb, *]; done) | (simp [rgb, *]; omega) | (simp [rgb]; omega))
          go_wp2
          go_ret
          exact ⟨retB HRR.out.symm, B1.out⟩
        | false =>
          have HRR : Hid (R = false) := Lib.hid (by rw [HRG.out]; first | (simp [rgb, *]; done) | (simp [rgb, *]; omega) | (simp [rgb]; omega))
          go_wp2
          go_ret
          exact ⟨retB HRR.out.symm, B1.out⟩
    · have u1 : (k == 1) = false := by simp; omega
      have u2 : (k == 2) = false := by simp; omega
      have u3 : (k == 3) = false := by simp; omega
      have u4 : (k == 4) = false := by simp; omega
      have u5 : (k == 5) = false := by simp; omega
      have u6 : (k == 6) = false := by simp; omega
      have u7 : (k == 7) = false := by simp; omega
      have u8 : (k == 8) = false := by simp; omega
      have HRR : Hid (R = false) := Lib.hid (by rw [HRG.out]; first | (simp [rgb, *]; done) | (simp [rgb, *]; omega) | (simp [rgb]; omega))
      go_wp2
      go_ret
      exact ⟨retB HRR.out.symm, B1.out⟩
end Go.Proofs.Ythjelilmlbbalaa.Rf
namespace Go.Proofs.Ythjelilmlbbalaa.Eb
open Go.RowKit Go.Proofs.Ythjelilmlbbalaa.Vm Go.Proofs.Ythjelilmlbbalaa.Vo Go.Proofs.Ythjelilmlbbalaa.Bw Go.Proofs.Ythjelilmlbbalaa.Na Go.Proofs.Ythjelilmlbbalaa.Tm Go.Proofs.Ythjelilmlbbalaa.Ta Go.Proofs.Ythjelilmlbbalaa.Tb Go.Proofs.Ythjelilmlbbalaa.Tf Go.Proofs.Ythjelilmlbbalaa.Rm Go.Proofs.Ythjelilmlbbalaa.Rv Go.Proofs.Ythjelilmlbbalaa.Ra Go.Proofs.Ythjelilmlbbalaa.Re

set_option maxHeartbeats 2000000 in
set_option maxRecDepth 100000 in
theorem End_any {A : Option Addr} {cap : Nat} {l : List Nd} (hl : l.length ≤ 1000000) (i : Int) (hi : i ≤ 9223372036854775807) {w : World} (H : Hid (nds w A l)) :
    Calls Try.prog 53 #[.slice A l.length cap, .int .i64 i] w fun e w' => e = .returned (.int .i64 (endI l i)) ∧ w = w' := by
  obtain ⟨N, hN⟩ : ∃ N, N = l.length := ⟨_, rfl⟩
  obtain ⟨E, hE⟩ : ∃ E, E = endI l i := ⟨_, rfl⟩
  rw [← hN, ← hE]
  rw [← hN] at hl
  have HN := Lib.hid hN
  have HE := Lib.hid hE
  clear hN hE
  by_cases h0 : i < 0
  · have he : Hid (E = -1) := Lib.hid (by rw [HE.out]; unfold endI; rw [if_pos h0])
    go_enter Try.func53, Try.ntmps53
    go_wp2
    go_ret
    exact ⟨ret_i64 he.out.symm, rfl⟩
  · obtain ⟨n, rfl⟩ := Int.eq_ofNat_of_zero_le (show 0 ≤ i by omega)
    have HQ : Hid (E = endA (n : Int) (endW N (l.drop n) 1)) := Lib.hid (by rw [HE.out, HN.out]; unfold endI; rw [if_neg h0, Int.toNat_natCast])
    clear h0
    have h0' : ¬ (n : Int) < 0 := by omega
    go_enter Try.func53, Try.ntmps53
    go_wp2
    go_loopw [1, 5] (fun s1 s5 wr => ∃ (m v : Nat), s5 = .int .i64 (v : Int) ∧ s1 = .int .i64 ((n + m : Nat) : Int) ∧ Hid (m = 0 ∨ n + m ≤ N) ∧ Hid (v ≤ 1 + m * N) ∧ Hid (v = 0 → endW N (l.drop n) 1 = some m) ∧ Hid (1 ≤ v → endW N (l.drop n) 1 = (endW N (l.drop (n + m)) v).map (· + m)) ∧ wr = w) (fun s1 _ _ => N + 1 - (intOf s1).toNat)
    case atStart => exact ⟨0, 1, rfl, rfl, Lib.hid (.inl rfl), Lib.hid (by omega), Lib.hid (by omega), Lib.hid (fun _ => by simp), rfl⟩
    case round =>
      obtain ⟨m, v, rfl, rfl, HM, HV, HZ, HEQ, rfl⟩ := hrel
      by_cases hv0 : v = 0
      · subst hv0
        have HR : Hid (E = ((n + m : Nat) : Int)) := Lib.hid (by rw [HQ.out, HZ.out rfl]; show (n : Int) + (m : Int) = _; omega)
        go_wp2
        go_ret
        exact ⟨ret_i64 HR.out.symm, rfl⟩
      have hvp : (0 : Int) < (v : Int) := by omega
      have HVP := Lib.hid hv0
      clear hv0
      by_cases hk : n + m < N
      · obtain ⟨x, hx⟩ : ∃ x, l[n + m]? = some x := ⟨_, List.getElem?_eq_getElem (by rw [← HN.out]; exact hk)⟩
        obtain ⟨b, off, rfl, hb, hp⟩ := H.out _ x hx
        have c1 := hp.c1
        have hin := hp.ikn
        have HD := Lib.hid (drop_at hx)
        obtain ⟨k, hkk⟩ : ∃ k, k = n + m := ⟨_, rfl⟩
        obtain ⟨xn, hxn⟩ : ∃ xn, xn = x.n := ⟨_, rfl⟩
        have HEQ : Hid (endW N (l.drop n) 1 = (endW N (l.drop (n + m)) v).map (· + m)) := Lib.hid (HEQ.out (by have := HVP.out; omega))
        rw [← hkk] at c1 hk HD HM HEQ
        rw [← hxn] at c1 hin
        have HXN := Lib.hid hxn
        have HKK := Lib.hid hkk
        rw [← hkk]
        unfold in64 at hin
        have hk' : ¬ (N : Int) ≤ (k : Int) := by omega
        have hk2 : (k : Int) < (N : Int) := by omega
        have hk0 : (0 : Int) ≤ (k : Int) := by omega
        clear hp hx hkk hxn
        have no : xn < 0 ∨ (N : Int) < xn → Hid (E = -1) := fun hb => Lib.hid (by
          rw [HQ.out, HEQ.out, HD.out, endW, ← HXN.out, if_pos hb]; rfl)
        rcases (show xn < 0 ∨ (¬ xn < 0 ∧ (N : Int) < xn) ∨ (¬ xn < 0 ∧ ¬ (N : Int) < xn) by omega) with h1 | ⟨h1, h2⟩ | ⟨h1, h2⟩
        · have NO := no (.inl h1)
          clear no
          go_wp2
          go_ret
          exact ⟨ret_i64 NO.out.symm, rfl⟩
        · have NO := no (.inr h2)
          clear no
          go_wp2
          go_ret
          exact ⟨ret_i64 NO.out.symm, rfl⟩
        · obtain ⟨c, rfl⟩ := Int.eq_ofNat_of_zero_le (show 0 ≤ xn by omega)
          obtain ⟨u, hu⟩ : ∃ u, u = v - 1 + c := ⟨_, rfl⟩
          have hv := HV.out
          have hbig : m * N ≤ 1000000000000 := Nat.le_trans (Nat.mul_le_mul (show m ≤ 1000000 by have := HKK.out; omega) hl) (by decide)
          have hvv := HVP.out
          have HSt : Hid (endW N (l.drop n) 1 = if u = 0 then some (1 + m) else (endW N (l.drop (k + 1)) u).map (· + (m + 1))) := Lib.hid (by
            rw [HEQ.out, HD.out, endW, ← HXN.out, if_neg (by omega), Int.toNat_natCast, ← hu]
            split
            · rfl
            · rw [map_comm, Nat.add_comm 1 m])
          have HU : Hid (u ≤ 1 + (m + 1) * N) := Lib.hid (by rw [Nat.add_mul]; omega)
          have HZ' : Hid (u = 0 → endW N (l.drop n) 1 = some (m + 1)) := Lib.hid (fun h => by rw [HSt.out, if_pos h, Nat.add_comm])
          have HN' : Hid (1 ≤ u → endW N (l.drop n) 1 = (endW N (l.drop (n + (m + 1))) u).map (· + (m + 1))) := Lib.hid (fun h => by rw [HSt.out, if_neg (by omega), HKK.out, Nat.add_assoc])
          have HK1 : Hid (k + 1 = n + (m + 1)) := Lib.hid (by have := HKK.out; omega)
          have HLT := Lib.hid hk
          have hw2 : wrap64 ((v : Int) + ((c : Int) - 1)) = (u : Int) := by rw [wrap64_in (by omega) (by omega)]; omega
          clear no hu hv hbig hvv HEQ hk
          go_wp2
          go_roundw
          case rel => exact ⟨m + 1, u, congrArg (Value.int IntKind.i64) hw2, congrArg (Value.int IntKind.i64) (by have := HK1.out; have := HLT.out; omega), Lib.hid (.inr (by have := HK1.out; have := HLT.out; omega)), HU, HZ', HN', trivial⟩
          case measure => have := HLT.out; simp [intOf]; omega
      · have HEQ : Hid (endW N (l.drop n) 1 = (endW N (l.drop (n + m)) v).map (· + m)) := Lib.hid (HEQ.out (by have := HVP.out; omega))
        have HR : Hid (E = -1) := Lib.hid (by
          rw [HQ.out, HEQ.out, List.drop_eq_nil_of_le (by rw [← HN.out]; omega)]; rfl)
        have hk' : (N : Int) ≤ ((n + m : Nat) : Int) := by omega
        go_wp2
        go_ret
        exact ⟨ret_i64 HR.out.symm, rfl⟩
end Go.Proofs.Ythjelilmlbbalaa.Eb
namespace Go.Proofs.Ythjelilmlbbalaa.Rg
open Go.RowKit Go.Proofs.Ythjelilmlbbalaa.Vm Go.Proofs.Ythjelilmlbbalaa.Vo Go.Proofs.Ythjelilmlbbalaa.Bw Go.Proofs.Ythjelilmlbbalaa.Na Go.Proofs.Ythjelilmlbbalaa.Tm Go.Proofs.Ythjelilmlbbalaa.Ta Go.Proofs.Ythjelilmlbbalaa.Tb Go.Proofs.Ythjelilmlbbalaa.Tf Go.Proofs.Ythjelilmlbbalaa.Tj Go.Proofs.Ythjelilmlbbalaa.Rm Go.Proofs.Ythjelilmlbbalaa.Rv Go.Proofs.Ythjelilmlbbalaa.Ra Go.Proofs.Ythjelilmlbbalaa.Re Go.Proofs.Ythjelilmlbbalaa.Rf

/-- What Check says: 0 or 4. -/
def checkI (l : List Nd) : Int := if l.length ≤ 400 ∧ endI l 0 = (l.length : Int) ∧ ∀ x ∈ l, right x then 0 else 4
theorem checkI_big {l : List Nd} (h : ¬ l.length ≤ 400) : checkI l = 4 := if_neg (fun c => h c.1)
theorem checkI_end {l : List Nd} (h : endI l 0 ≠ (l.length : Int)) : checkI l = 4 := if_neg (fun c => h c.2.1)
theorem checkI_node {l : List Nd} {i : Nat} {x : Nd} (hx : l[i]? = some x) (h : ¬ right x) : checkI l = 4 := if_neg (fun c => h (c.2.2 x (List.mem_of_getElem? hx)))
theorem checkI_ok {l : List Nd} (h1 : l.length ≤ 400) (h2 : endI l 0 = (l.length : Int)) (h3 : ∀ i x, i < l.length → l[i]? = some x → right x) : checkI l = 0 :=
  if_pos ⟨h1, h2, fun x hx => by
    obtain ⟨i, hi⟩ := List.mem_iff_getElem?.1 hx
    exact h3 i x (List.getElem?_eq_some_iff.1 hi).1 hi⟩
theorem endI_zero {l : List Nd} (h : l.length = 0) : endI l 0 ≠ (l.length : Int) := by
  obtain rfl : l = [] := List.eq_nil_of_length_eq_zero h
  decide
/-- Where it says 0 the nodes are a right tree's; and a right tree of at most 400 nodes is taken. -/
theorem checkI_iff {l : List Nd} (hs : ∀ x ∈ l, isSet x.s) : checkI l = 0 ↔ l.length ≤ 400 ∧ ∃ t, okT t ∧ l = enc t := by
  rw [← check_iff hs]
  unfold checkI endI
  rw [if_neg (show ¬ (0 : Int) < 0 by omega)]
  have e : endA 0 (endW l.length (l.drop (0 : Int).toNat) 1) = (l.length : Int) ↔ endW l.length l 1 = some l.length := by
    show endA 0 (endW l.length l 1) = _ ↔ _
    cases endW l.length l 1 with
    | none => constructor
              · intro h; exact absurd h (by show ¬ (-1 : Int) = _; omega)
              · intro h; cases h
    | some m => constructor
                · intro h
                  have h' : (0 : Int) + (m : Int) = (l.length : Int) := h
                  rw [show m = l.length by omega]
                · intro h
                  obtain rfl : m = l.length := by simpa using h
                  show (0 : Int) + _ = _
                  omega
  constructor
  · intro h
    split at h
    · rename_i c; exact ⟨c.1, e.1 c.2.1, c.2.2⟩
    · cases h
  · rintro ⟨h1, h2, h3⟩
    rw [if_pos ⟨h1, e.2 h2, h3⟩]

set_option maxHeartbeats 2000000 in
set_option maxRecDepth 100000 in
theorem rCheck_any {A : Option Addr} {cap : Nat} {l : List Nd} (hl : l.length ≤ 1000000) {w : World} (H : Hid (nds w A l)) :
    Calls Try.prog 24 #[.slice A l.length cap] w fun e w' => e = .returned (.int .i64 (checkI l)) ∧ Below w.heap.size w w' := by
  have HEnd : Hid (Calls Try.prog 42 #[.slice A l.length cap, .int .i64 0] w fun e w' => e = .returned (.int .i64 (endI l 0)) ∧ w = w') := Lib.hid (rEnd_any hl 0 (by omega) H)
  obtain ⟨N, hN⟩ : ∃ N, N = l.length := ⟨_, rfl⟩
  obtain ⟨E, hE⟩ : ∃ E, E = endI l 0 := ⟨_, rfl⟩
  obtain ⟨R, hR⟩ : ∃ R, R = checkI l := ⟨_, rfl⟩
  rw [← hN, ← hE] at HEnd
  rw [← hN, ← hR]
  rw [← hN] at hl
  have HN := Lib.hid hN
  have HE := Lib.hid hE
  have HR := Lib.hid hR
  clear hN hE hR
  by_cases h4 : 400 < N
  · have h4' : (400 : Int) < (N : Int) := by omega
    have HX : Hid (R = 4) := Lib.hid (by rw [HR.out, checkI_big (by rw [← HN.out]; omega)])
    go_enter Try.func24, Try.ntmps24
    go_wp2
    go_ret
    exact ⟨ret_i64 HX.out.symm, Below.refl _ _⟩
  · have h4' : ¬ (400 : Int) < (N : Int) := by omega
    by_cases he : E = (N : Int)
    · have hEN : (E == (N : Int)) = true := by simp [he]
      have hN0 : ((N : Int) == 0) = false := by
        rw [beq_eq_false_iff_ne]
        intro h0
        exact endI_zero (l := l) (by rw [← HN.out]; omega) (by rw [← HE.out, he, HN.out])
      have HEE := Lib.hid he
      have HHH : Hid (N ≤ 400) := Lib.hid (by omega)
      clear he h4
      go_enter Try.func24, Try.ntmps24
      go_wp2_with (go_at_call 42; refine HEnd.out.mono ?_; rintro e w9 ⟨rfl, rfl⟩)
      go_loopw [3] (fun s3 wr => ∃ j : Nat, s3 = .int .i64 (j : Int) ∧ j ≤ N ∧ Hid (∀ i x, i < j → l[i]? = some x → right x) ∧ Hid (Below w.heap.size w wr)) (fun s3 _ => N - (intOf s3).toNat)
      case atStart => exact ⟨0, rfl, by omega, Lib.hid (fun i x hi => absurd hi (by omega)), Lib.hid (Below.refl _ _)⟩
      case round =>
        obtain ⟨j, rfl, hj, HA, HB⟩ := hrel
        by_cases hjn : j < N
        · obtain ⟨x, hx⟩ : ∃ x, l[j]? = some x := ⟨_, List.getElem?_eq_getElem (by rw [← HN.out]; exact hjn)⟩
          have HJX := Lib.hid hx
          obtain ⟨b, off, rfl, hb, hp⟩ := (H.out.below HB.out) _ x hx
          have c0 := hp.c0
          have c1 := hp.c1
          have c6 := hp.c6
          have c7 := hp.c7
          obtain ⟨x0, x1, x2, x3, hs, c2, c3, c4, c5⟩ := hp.four
          obtain ⟨xk, xn, xs, xl, xh⟩ := x
          dsimp only at c0 c1 c6 c7 hs
          subst hs
          obtain ⟨rb, hrb⟩ : ∃ rb, rb = decide (right ⟨xk, xn, [x0, x1, x2, x3], xl, xh⟩) := ⟨_, rfl⟩
          have HRT : Hid (∀ w, Calls Try.prog 43 #[.agg #[.int .i64 xk, .int .i64 xn, .int .u64 (x0 : Int), .int .u64 (x1 : Int), .int .u64 (x2 : Int), .int .u64 (x3 : Int), .int .i64 xl, .int .i64 xh]] w fun e w' => e = .returned (.bool rb) ∧ Below w.heap.size w w') := Lib.hid (fun w => by rw [hrb]; exact rright_any _ _ _ _ _ _ _ _)
          have HRB := Lib.hid hrb
          have hj' : (j : Int) < (N : Int) := by omega
          have hj0 : (0 : Int) ≤ (j : Int) := by omega
          have HJN := Lib.hid hjn
          clear hx hp hrb hjn hb
          cases rb with
          | false =>
            have HX : Hid (R = 4) := Lib.hid (by rw [HR.out, checkI_node HJX.out (by simpa using HRB.out.symm)])
            go_wp2_with (go_at_call 43; refine (HRT.out _).mono ?_; rintro e w9 ⟨rfl, k9⟩; have K9 := Lib.hid k9; clear k9)
            go_ret
            exact ⟨ret_i64 HX.out.symm, grows HB.out K9.out⟩
          | true =>
            have HA' : Hid (∀ i x, i < j + 1 → l[i]? = some x → right x) := Lib.hid (fun i y hi hy => by
              rcases (show i < j ∨ i = j by omega) with h | rfl
              · exact HA.out i y h hy
              · rw [HJX.out] at hy
                obtain rfl := Option.some.inj hy
                simpa using HRB.out.symm)
            go_wp2_with (go_at_call 43; refine (HRT.out _).mono ?_; rintro e w9 ⟨rfl, k9⟩; have K9 := Lib.hid k9; clear k9)
            go_roundw
            case rel => exact ⟨j + 1, by go_num, by have := HJN.out; omega, HA', Lib.hid (grows HB.out K9.out)⟩
            case measure => have := HJN.out; simp [intOf]; omega
        · have hj' : ¬ (j : Int) < (N : Int) := by omega
          have HX : Hid (R = 0) := Lib.hid (by
            rw [HR.out, checkI_ok (by rw [← HN.out]; exact HHH.out) (by rw [← HE.out, HEE.out, HN.out]) (fun i x hi hx => HA.out i x (by have := HN.out; omega) hx)])
          go_wp2
          go_ret
          exact ⟨ret_i64 HX.out.symm, HB.out⟩
    · have hEN : (E == (N : Int)) = false := by simp [he]
      have HX : Hid (R = 4) := Lib.hid (by rw [HR.out, checkI_end (by rw [← HE.out, ← HN.out]; exact he)])
      clear he h4
      go_enter Try.func24, Try.ntmps24
      go_wp2_with (go_at_call 42; refine HEnd.out.mono ?_; rintro e w9 ⟨rfl, rfl⟩)
      go_ret
      exact ⟨ret_i64 HX.out.symm, Below.refl _ _⟩
end Go.Proofs.Ythjelilmlbbalaa.Rg
namespace Go.Proofs.Ythjelilmlbbalaa.Ea
open Go.RowKit Go.Proofs.Ythjelilmlbbalaa.Vm Go.Proofs.Ythjelilmlbbalaa.Vo Go.Proofs.Ythjelilmlbbalaa.Bw Go.Proofs.Ythjelilmlbbalaa.Na Go.Proofs.Ythjelilmlbbalaa.Tm Go.Proofs.Ythjelilmlbbalaa.Ta Go.Proofs.Ythjelilmlbbalaa.Tb Go.Proofs.Ythjelilmlbbalaa.Tf Go.Proofs.Ythjelilmlbbalaa.Tj Go.Proofs.Ythjelilmlbbalaa.Rm Go.Proofs.Ythjelilmlbbalaa.Rv Go.Proofs.Ythjelilmlbbalaa.Ra Go.Proofs.Ythjelilmlbbalaa.Rf

set_option maxRecDepth 100000 in
theorem eq_four9 (x0 x1 x2 x3 y0 y1 y2 y3 : Int) (w : World) :
    (Op.equalIn 9999 64 (.agg #[.int .u64 x0, .int .u64 x1, .int .u64 x2, .int .u64 x3]) (.agg #[.int .u64 y0, .int .u64 y1, .int .u64 y2, .int .u64 y3])).run Try.prog w = .ok (x0 == y0 && x1 == y1 && x2 == y2 && x3 == y3) w := by
  have u3 := Try.underlying62
  have a3 := Try.isAgg62
  have z3 := Try.sizeOf62
  rw [show (9999 : Nat) = 9998 + 1 from rfl, Op.equalIn]
  simp only [Sem.run_bind, run_underlying Try.underlying64, Result.andThen_ok]
  simp only [Std.Legacy.Range.forIn_eq_forIn_range', Std.Legacy.Range.size, Nat.sub_zero, Nat.add_sub_cancel, Nat.div_one, List.range'_succ, List.range'_zero, List.forIn_cons, List.forIn_nil]
  go_simp
  by_cases h0 : x0 = y0 <;> by_cases h1 : x1 = y1 <;> by_cases h2 : x2 = y2 <;> by_cases h3 : x3 = y3 <;> simp [h0, h1, h2, h3]
set_option maxRecDepth 100000 in
theorem eq_used (k n x0 x1 x2 x3 lo hi y0 y1 y2 y3 lo' hi' : Int) (u : World) :
    (Op.equalIn 10000 79 (.agg #[.int .i64 k, .int .i64 n, .int .u64 x0, .int .u64 x1, .int .u64 x2, .int .u64 x3, .int .i64 lo, .int .i64 hi]) (.agg #[.int .i64 k, .int .i64 n, .int .u64 y0, .int .u64 y1, .int .u64 y2, .int .u64 y3, .int .i64 lo', .int .i64 hi'])).run Try.prog u = .ok ((x0 == y0 && x1 == y1 && x2 == y2 && x3 == y3) && (lo == lo') && (hi == hi')) u := by
  have e4 := eq_four9 x0 x1 x2 x3 y0 y1 y2 y3
  obtain ⟨z, hz⟩ : ∃ z, z = (x0 == y0 && x1 == y1 && x2 == y2 && x3 == y3) := ⟨_, rfl⟩
  rw [← hz] at e4 ⊢
  clear hz
  by_cases hl : lo = lo' <;> by_cases hh : hi = hi' <;> cases z <;> (go_simp)
/-- Can two numbers be those of a repetition. -/
def bnd (lo hi : Int) : Bool := decide (0 ≤ lo ∧ lo ≤ (if hi = -1 then 30 else hi) ∧ (if hi = -1 then 30 else hi) ≤ 30)
set_option maxRecDepth 100000 in
theorem bounded_any (lo hi : Int) (w : World) : Calls Try.prog 67 #[.int .i64 lo, .int .i64 hi] w fun e w' => e = .returned (.bool (bnd lo hi)) ∧ w = w' := by
  obtain ⟨R, hR⟩ : ∃ R, R = bnd lo hi := ⟨_, rfl⟩
  rw [← hR]
  unfold bnd at hR
  by_cases h1 : hi = -1
  · subst h1
    rw [if_pos rfl] at hR
    have HR := Lib.hid hR
    clear hR
    rcases (show lo < 0 ∨ (0 ≤ lo ∧ 30 < lo) ∨ (0 ≤ lo ∧ lo ≤ 30) by omega) with h | ⟨h, h'⟩ | ⟨h, h'⟩
    · have HX : Hid (R = false) := Lib.hid (by rw [HR.out]; simp; omega)
      have h2 : ¬ (0 : Int) ≤ lo := by omega
      go_enter Try.func67, Try.ntmps67
      go_wp2
      go_ret
      exact ⟨retB HX.out.symm, rfl⟩
    · have HX : Hid (R = false) := Lib.hid (by rw [HR.out]; simp; omega)
      have h2 : ¬ lo ≤ (30 : Int) := by omega
      go_enter Try.func67, Try.ntmps67
      go_wp2
      go_ret
      exact ⟨retB HX.out.symm, rfl⟩
    · have HX : Hid (R = true) := Lib.hid (by rw [HR.out]; simp; omega)
      go_enter Try.func67, Try.ntmps67
      go_wp2
      go_ret
      exact ⟨retB HX.out.symm, rfl⟩
  · rw [if_neg h1] at hR
    have HR := Lib.hid hR
    clear hR
    have q : (hi == -1) = false := by simp [h1]
    rcases (show lo < 0 ∨ (0 ≤ lo ∧ hi < lo) ∨ (0 ≤ lo ∧ lo ≤ hi ∧ 30 < hi) ∨ (0 ≤ lo ∧ lo ≤ hi ∧ hi ≤ 30) by omega) with h | ⟨h, h'⟩ | ⟨h, h', h3⟩ | ⟨h, h', h3⟩
    · have HX : Hid (R = false) := Lib.hid (by rw [HR.out]; simp; omega)
      have h2 : ¬ (0 : Int) ≤ lo := by omega
      go_enter Try.func67, Try.ntmps67
      go_wp2
      go_ret
      exact ⟨retB HX.out.symm, rfl⟩
    · have HX : Hid (R = false) := Lib.hid (by rw [HR.out]; simp; omega)
      have h2 : ¬ lo ≤ hi := by omega
      go_enter Try.func67, Try.ntmps67
      go_wp2
      go_ret
      exact ⟨retB HX.out.symm, rfl⟩
    · have HX : Hid (R = false) := Lib.hid (by rw [HR.out]; simp; omega)
      have h2 : ¬ hi ≤ (30 : Int) := by omega
      go_enter Try.func67, Try.ntmps67
      go_wp2
      go_ret
      exact ⟨retB HX.out.symm, rfl⟩
    · have HX : Hid (R = true) := Lib.hid (by rw [HR.out]; simp; omega)
      go_enter Try.func67, Try.ntmps67
      go_wp2
      go_ret
      exact ⟨retB HX.out.symm, rfl⟩
end Go.Proofs.Ythjelilmlbbalaa.Ea
namespace Go.Proofs.Ythjelilmlbbalaa.Eg
open Go.RowKit Go.Proofs.Ythjelilmlbbalaa.Vm Go.Proofs.Ythjelilmlbbalaa.Vo Go.Proofs.Ythjelilmlbbalaa.Bw Go.Proofs.Ythjelilmlbbalaa.Na Go.Proofs.Ythjelilmlbbalaa.Tm Go.Proofs.Ythjelilmlbbalaa.Ta Go.Proofs.Ythjelilmlbbalaa.Tb Go.Proofs.Ythjelilmlbbalaa.Tf Go.Proofs.Ythjelilmlbbalaa.Tj Go.Proofs.Ythjelilmlbbalaa.Rm Go.Proofs.Ythjelilmlbbalaa.Rv Go.Proofs.Ythjelilmlbbalaa.Ra Go.Proofs.Ythjelilmlbbalaa.Rf Go.Proofs.Ythjelilmlbbalaa.Ea

theorem rgb8 (n lo hi : Int) (z : Bool) : rgb 8 n lo hi z = (decide (n = 1) && (bnd lo hi && z)) := by
  unfold bnd
  by_cases h2 : hi = -1
  · subst h2
    cases z <;> by_cases h1 : n = 1 <;> by_cases h3 : 0 ≤ lo <;> by_cases h4 : lo ≤ 30 <;> simp [rgb, h1, h3, h4]
  · cases z <;> by_cases h1 : n = 1 <;> by_cases h3 : 0 ≤ lo <;> by_cases h4 : lo ≤ hi <;> by_cases h5 : hi ≤ 30 <;> by_cases h6 : lo ≤ 30 <;> simp [rgb, h1, h2, h3, h4, h5, h6] <;> omega

set_option maxHeartbeats 4000000 in
set_option maxRecDepth 100000 in
theorem right_any (k n lo hi : Int) (x0 x1 x2 x3 : Nat) {w : World} :
    Calls Try.prog 54 #[.agg #[.int .i64 k, .int .i64 n, .int .u64 (x0 : Int), .int .u64 (x1 : Int), .int .u64 (x2 : Int), .int .u64 (x3 : Int), .int .i64 lo, .int .i64 hi]] w fun e w' => e = .returned (.bool (decide (right ⟨k, n, [x0, x1, x2, x3], lo, hi⟩))) ∧ Below w.heap.size w w' := by
  obtain ⟨w1, hw1⟩ : ∃ w1, w1 = w.alloc (.cells #[.int .i64 k, .int .i64 n, .int .u64 (x0 : Int), .int .u64 (x1 : Int), .int .u64 (x2 : Int), .int .u64 (x3 : Int), .int .i64 lo, .int .i64 hi] 79) := ⟨_, rfl⟩
  have s1 : w1.heap.size = w.heap.size + 1 := by rw [hw1]; exact size_alloc _ _
  have B1 : Hid (Below w.heap.size w w1) := Lib.hid (by rw [hw1]; exact below_alloc _ _)
  have K1 : Hid (Blk w1 w.heap.size 79 #[.int .i64 k, .int .i64 n, .int .u64 (x0 : Int), .int .u64 (x1 : Int), .int .u64 (x2 : Int), .int .u64 (x3 : Int), .int .i64 lo, .int .i64 hi]) := Lib.hid (by rw [hw1]; exact Blk.fresh _ _ _)
  obtain ⟨w2, hw2⟩ : ∃ w2, w2 = w1.alloc (.cells #[.int .i64 k, .int .i64 n, .int .u64 0, .int .u64 0, .int .u64 0, .int .u64 0, .int .i64 0, .int .i64 0] 79) := ⟨_, rfl⟩
  have s2 : w2.heap.size = w.heap.size + 2 := by rw [hw2, size_alloc, s1]
  have B2 : Hid (Below w.heap.size w w2) := Lib.hid (by rw [hw2]; exact B1.out.alloc (by omega) _)
  have K2 : Hid (Blk w2 w.heap.size 79 #[.int .i64 k, .int .i64 n, .int .u64 (x0 : Int), .int .u64 (x1 : Int), .int .u64 (x2 : Int), .int .u64 (x3 : Int), .int .i64 lo, .int .i64 hi]) := Lib.hid (by rw [hw2]; exact ((below_alloc w1 _).block _ (by omega)).trans K1.out)
  have U2 : Hid (Blk w2 (w.heap.size + 1) 79 #[.int .i64 k, .int .i64 n, .int .u64 0, .int .u64 0, .int .u64 0, .int .u64 0, .int .i64 0, .int .i64 0]) := Lib.hid (by rw [hw2, ← s1]; exact Blk.fresh _ _ _)
  have d0 : w2.cell? ⟨w.heap.size, 0, none⟩ = some (.int .i64 k) := K2.out.cell 0
  have d1 : w2.cell? ⟨w.heap.size, 1, none⟩ = some (.int .i64 n) := K2.out.cell 1
  have d2 : w2.cell? ⟨w.heap.size, 2, none⟩ = some (.int .u64 (x0 : Int)) := K2.out.cell 2
  have d3 : w2.cell? ⟨w.heap.size, 3, none⟩ = some (.int .u64 (x1 : Int)) := K2.out.cell 3
  have d4 : w2.cell? ⟨w.heap.size, 4, none⟩ = some (.int .u64 (x2 : Int)) := K2.out.cell 4
  have d5 : w2.cell? ⟨w.heap.size, 5, none⟩ = some (.int .u64 (x3 : Int)) := K2.out.cell 5
  have d6 : w2.cell? ⟨w.heap.size, 6, none⟩ = some (.int .i64 lo) := K2.out.cell 6
  have d7 : w2.cell? ⟨w.heap.size, 7, none⟩ = some (.int .i64 hi) := K2.out.cell 7
  have u0 : w2.cell? ⟨w.heap.size + 1, 0, none⟩ = some (.int .i64 k) := U2.out.cell 0
  have u1 : w2.cell? ⟨w.heap.size + 1, 1, none⟩ = some (.int .i64 n) := U2.out.cell 1
  have u2 : w2.cell? ⟨w.heap.size + 1, 2, none⟩ = some (.int .u64 0) := U2.out.cell 2
  have u3 : w2.cell? ⟨w.heap.size + 1, 3, none⟩ = some (.int .u64 0) := U2.out.cell 3
  have u4 : w2.cell? ⟨w.heap.size + 1, 4, none⟩ = some (.int .u64 0) := U2.out.cell 4
  have u5 : w2.cell? ⟨w.heap.size + 1, 5, none⟩ = some (.int .u64 0) := U2.out.cell 5
  have u6 : w2.cell? ⟨w.heap.size + 1, 6, none⟩ = some (.int .i64 0) := U2.out.cell 6
  have u7 : w2.cell? ⟨w.heap.size + 1, 7, none⟩ = some (.int .i64 0) := U2.out.cell 7
  have g2 : w2.frozen? ⟨w.heap.size + 1, 2, none⟩ = false := U2.out.frozen 2
  have g3 : w2.frozen? ⟨w.heap.size + 1, 3, none⟩ = false := U2.out.frozen 3
  have g4 : w2.frozen? ⟨w.heap.size + 1, 4, none⟩ = false := U2.out.frozen 4
  have g5 : w2.frozen? ⟨w.heap.size + 1, 5, none⟩ = false := U2.out.frozen 5
  have g6 : w2.frozen? ⟨w.heap.size + 1, 6, none⟩ = false := U2.out.frozen 6
  have g7 : w2.frozen? ⟨w.heap.size + 1, 7, none⟩ = false := U2.out.frozen 7
  obtain ⟨zb, hzb⟩ : ∃ zb : Bool, zb = decide (([x0, x1, x2, x3] : List Nat) = zero) := ⟨_, rfl⟩
  have hzz : zb = ((x0 : Int) == 0 && (x1 : Int) == 0 && (x2 : Int) == 0 && (x3 : Int) == 0) := by
    rw [hzb]
    by_cases h0 : x0 = 0 <;> by_cases h1 : x1 = 0 <;> by_cases h2 : x2 = 0 <;> by_cases h3 : x3 = 0 <;> simp [zero, h0, h1, h2, h3]
  have heq : ∀ w, (Op.equalIn 10000 64 (.agg #[.int .u64 (x0 : Int), .int .u64 (x1 : Int), .int .u64 (x2 : Int), .int .u64 (x3 : Int)]) (.agg #[.int .u64 0, .int .u64 0, .int .u64 0, .int .u64 0])).run Try.prog w = .ok zb w := fun w => by
    rw [eq_four, hzz]
  have hn0 : ∀ (l h : Int) u, (Op.equalIn 10000 79 (.agg #[.int .i64 k, .int .i64 n, .int .u64 (x0 : Int), .int .u64 (x1 : Int), .int .u64 (x2 : Int), .int .u64 (x3 : Int), .int .i64 lo, .int .i64 hi]) (.agg #[.int .i64 k, .int .i64 n, .int .u64 0, .int .u64 0, .int .u64 0, .int .u64 0, .int .i64 l, .int .i64 h])).run Try.prog u = .ok (zb && (lo == l) && (hi == h)) u := fun l h u => by
    rw [eq_used, hzz]
  have hn1 : ∀ u, (Op.equalIn 10000 79 (.agg #[.int .i64 k, .int .i64 n, .int .u64 (x0 : Int), .int .u64 (x1 : Int), .int .u64 (x2 : Int), .int .u64 (x3 : Int), .int .i64 lo, .int .i64 hi]) (.agg #[.int .i64 k, .int .i64 n, .int .u64 (x0 : Int), .int .u64 (x1 : Int), .int .u64 (x2 : Int), .int .u64 (x3 : Int), .int .i64 0, .int .i64 0])).run Try.prog u = .ok ((lo == 0) && (hi == 0)) u := fun u => by
    rw [eq_used]; simp
  obtain ⟨R, hR⟩ : ∃ R, R = decide (right ⟨k, n, [x0, x1, x2, x3], lo, hi⟩) := ⟨_, rfl⟩
  rw [← hR]
  have HRG : Hid (R = rgb k n lo hi zb) := Lib.hid (by
    rw [hR, hzb]
    unfold right rgb
    by_cases hz : ([x0, x1, x2, x3] : List Nat) = zero
    · simp [hz]
    · simp [hz])
  obtain ⟨bb, hbb⟩ : ∃ bb, bb = bnd lo hi := ⟨_, rfl⟩
  have HBN : Hid (∀ w, Calls Try.prog 67 #[.int .i64 lo, .int .i64 hi] w fun e w' => e = .returned (.bool bb) ∧ w = w') := Lib.hid (fun w => by rw [hbb]; exact bounded_any lo hi w)
  have HBB := Lib.hid hbb
  clear hzb hR hzz hbb
  obtain ⟨eb, heb⟩ : ∃ eb, eb = ((lo == 0) && (hi == 0)) := ⟨_, rfl⟩
  rw [← heb] at hn1
  have hn2 := hn0 0 0
  have hn3 := hn0 lo hi
  simp only [Bool.and_assoc, beq_self_eq_true, Bool.and_true] at hn2 hn3
  rw [← heb] at hn2
  clear hn0
  have HEB : Hid (eb = decide (lo = 0 ∧ hi = 0)) := Lib.hid (by rw [heb]; by_cases h1 : lo = 0 <;> by_cases h2 : hi = 0 <;> simp [h1, h2])
  clear heb
  go_enter Try.func54, Try.ntmps54
  go_upto_region 2 with fail
  rw [← hw1, ← hw2]
  clear hw1 hw2
  rcases (show k = 1 ∨ k = 2 ∨ k = 3 ∨ k = 4 ∨ k = 5 ∨ k = 6 ∨ k = 7 ∨ k = 8 ∨ (k ≠ 1 ∧ k ≠ 2 ∧ k ≠ 3 ∧ k ≠ 4 ∧ k ≠ 5 ∧ k ≠ 6 ∧ k ≠ 7 ∧ k ≠ 8) by omega) with e | e | e | e | e | e | e | e | ⟨e1, e2, e3, e4, e5, e6, e7, e8⟩
  · subst e
    have HE : Hid (R = (decide (n = 0) && !zb && eb)) := Lib.hid (by rw [HRG.out, HEB.out]; by_cases h1 : n = 0 <;> by_cases h2 : lo = 0 <;> by_cases h3 : hi = 0 <;> cases zb <;> simp [rgb, h1, h2, h3])
    clear hn2 hn3
    by_cases hn : n = 0
    · subst hn
      cases zb with
      | true =>
        have HRR : Hid (R = false) := Lib.hid (by rw [HRG.out]; rw [← HRG.out, HE.out]; rfl)
        go_wp2
        go_ret
        exact ⟨retB HRR.out.symm, (((B2.out.setCell (p := ⟨_, 2, none⟩) (Nat.le_succ _) _).setCell (p := ⟨_, 3, none⟩) (Nat.le_succ _) _).setCell (p := ⟨_, 4, none⟩) (Nat.le_succ _) _).setCell (p := ⟨_, 5, none⟩) (Nat.le_succ _) _⟩
      | false =>
        have HRR : Hid (R = eb) := Lib.hid (by rw [HRG.out]; rw [← HRG.out, HE.out]; simp)
        go_wp2
        go_ret
        exact ⟨retB HRR.out.symm, (((B2.out.setCell (p := ⟨_, 2, none⟩) (Nat.le_succ _) _).setCell (p := ⟨_, 3, none⟩) (Nat.le_succ _) _).setCell (p := ⟨_, 4, none⟩) (Nat.le_succ _) _).setCell (p := ⟨_, 5, none⟩) (Nat.le_succ _) _⟩
    · have f1 : (n == 0) = false := by simp; omega
      have HRR : Hid (R = false) := Lib.hid (by rw [HRG.out]; rw [← HRG.out, HE.out]; simp [hn])
      go_wp2
      go_ret
      exact ⟨retB HRR.out.symm, (((B2.out.setCell (p := ⟨_, 2, none⟩) (Nat.le_succ _) _).setCell (p := ⟨_, 3, none⟩) (Nat.le_succ _) _).setCell (p := ⟨_, 4, none⟩) (Nat.le_succ _) _).setCell (p := ⟨_, 5, none⟩) (Nat.le_succ _) _⟩
  · subst e
    have HE : Hid (R = (decide (n = 0) && (zb && eb))) := Lib.hid (by rw [HRG.out, HEB.out]; by_cases h1 : n = 0 <;> by_cases h2 : lo = 0 <;> by_cases h3 : hi = 0 <;> cases zb <;> simp [rgb, h1, h2, h3])
    by_cases hn : n = 0
    · subst hn
      have HRR : Hid (R = (zb && eb)) := Lib.hid (by rw [HRG.out]; rw [← HRG.out, HE.out]; simp)
      go_wp2
      go_ret
      exact ⟨retB HRR.out.symm, B2.out⟩
    · have f1 : (n == 0) = false := by simp; omega
      have HRR : Hid (R = false) := Lib.hid (by rw [HRG.out]; rw [← HRG.out, HE.out]; simp [hn])
      go_wp2
      go_ret
      exact ⟨retB HRR.out.symm, B2.out⟩
  · subst e
    have HE : Hid (R = (decide (2 ≤ n) && (zb && eb))) := Lib.hid (by rw [HRG.out, HEB.out]; by_cases h1 : (2 : Int) ≤ n <;> by_cases h2 : lo = 0 <;> by_cases h3 : hi = 0 <;> cases zb <;> simp [rgb, h1, h2, h3])
    by_cases hn : (2 : Int) ≤ n
    · skip
      have HRR : Hid (R = (zb && eb)) := Lib.hid (by rw [HRG.out]; rw [← HRG.out, HE.out]; simp [hn])
      go_wp2
      go_ret
      exact ⟨retB HRR.out.symm, B2.out⟩
    · skip
      have HRR : Hid (R = false) := Lib.hid (by rw [HRG.out]; rw [← HRG.out, HE.out]; simp [hn])
      go_wp2
      go_ret
      exact ⟨retB HRR.out.symm, B2.out⟩
  · subst e
    have HE : Hid (R = (decide (2 ≤ n) && (zb && eb))) := Lib.hid (by rw [HRG.out, HEB.out]; by_cases h1 : (2 : Int) ≤ n <;> by_cases h2 : lo = 0 <;> by_cases h3 : hi = 0 <;> cases zb <;> simp [rgb, h1, h2, h3])
    by_cases hn : (2 : Int) ≤ n
    · skip
      have HRR : Hid (R = (zb && eb)) := Lib.hid (by rw [HRG.out]; rw [← HRG.out, HE.out]; simp [hn])
      go_wp2
      go_ret
      exact ⟨retB HRR.out.symm, B2.out⟩
    · skip
      have HRR : Hid (R = false) := Lib.hid (by rw [HRG.out]; rw [← HRG.out, HE.out]; simp [hn])
      go_wp2
      go_ret
      exact ⟨retB HRR.out.symm, B2.out⟩
  · subst e
    have HE : Hid (R = (decide (n = 1) && (zb && eb))) := Lib.hid (by rw [HRG.out, HEB.out]; by_cases h1 : n = 1 <;> by_cases h2 : lo = 0 <;> by_cases h3 : hi = 0 <;> cases zb <;> simp [rgb, h1, h2, h3])
    by_cases hn : n = 1
    · subst hn
      have HRR : Hid (R = (zb && eb)) := Lib.hid (by rw [HRG.out]; rw [← HRG.out, HE.out]; simp)
      go_wp2
      go_ret
      exact ⟨retB HRR.out.symm, B2.out⟩
    · have f1 : (n == 1) = false := by simp; omega
      have HRR : Hid (R = false) := Lib.hid (by rw [HRG.out]; rw [← HRG.out, HE.out]; simp [hn])
      go_wp2
      go_ret
      exact ⟨retB HRR.out.symm, B2.out⟩
  · subst e
    have HE : Hid (R = (decide (n = 1) && (zb && eb))) := Lib.hid (by rw [HRG.out, HEB.out]; by_cases h1 : n = 1 <;> by_cases h2 : lo = 0 <;> by_cases h3 : hi = 0 <;> cases zb <;> simp [rgb, h1, h2, h3])
    by_cases hn : n = 1
    · subst hn
      have HRR : Hid (R = (zb && eb)) := Lib.hid (by rw [HRG.out]; rw [← HRG.out, HE.out]; simp)
      go_wp2
      go_ret
      exact ⟨retB HRR.out.symm, B2.out⟩
    · have f1 : (n == 1) = false := by simp; omega
      have HRR : Hid (R = false) := Lib.hid (by rw [HRG.out]; rw [← HRG.out, HE.out]; simp [hn])
      go_wp2
      go_ret
      exact ⟨retB HRR.out.symm, B2.out⟩
  · subst e
    have HE : Hid (R = (decide (n = 1) && (zb && eb))) := Lib.hid (by rw [HRG.out, HEB.out]; by_cases h1 : n = 1 <;> by_cases h2 : lo = 0 <;> by_cases h3 : hi = 0 <;> cases zb <;> simp [rgb, h1, h2, h3])
    by_cases hn : n = 1
    · subst hn
      have HRR : Hid (R = (zb && eb)) := Lib.hid (by rw [HRG.out]; rw [← HRG.out, HE.out]; simp)
      go_wp2
      go_ret
      exact ⟨retB HRR.out.symm, B2.out⟩
    · have f1 : (n == 1) = false := by simp; omega
      have HRR : Hid (R = false) := Lib.hid (by rw [HRG.out]; rw [← HRG.out, HE.out]; simp [hn])
      go_wp2
      go_ret
      exact ⟨retB HRR.out.symm, B2.out⟩
  · subst e
    have HE : Hid (R = (decide (n = 1) && (bb && zb))) := Lib.hid (by rw [HRG.out, HBB.out, rgb8])
    go_wp2
    go_region
    simp only [Exit.then]
    by_cases hn : n = 1
    · subst hn
      cases bb with
      | true =>
        have HRR : Hid (R = zb) := Lib.hid (by rw [HRG.out]; rw [← HRG.out, HE.out]; simp)
        go_wp2_with (go_at_call 67; refine (HBN.out _).mono ?_; rintro e w9 ⟨rfl, rfl⟩)
        go_ret
        exact ⟨retB HRR.out.symm, ((B2.out.setCell (p := ⟨_, 6, none⟩) (Nat.le_succ _) _).setCell (p := ⟨_, 7, none⟩) (Nat.le_succ _) _).drew⟩
      | false =>
        have HRR : Hid (R = false) := Lib.hid (by rw [HRG.out]; rw [← HRG.out, HE.out]; simp)
        go_wp2_with (go_at_call 67; refine (HBN.out _).mono ?_; rintro e w9 ⟨rfl, rfl⟩)
        go_ret
        exact ⟨retB HRR.out.symm, ((B2.out.setCell (p := ⟨_, 6, none⟩) (Nat.le_succ _) _).setCell (p := ⟨_, 7, none⟩) (Nat.le_succ _) _).drew⟩
    · have f1 : (n == 1) = false := by simp; omega
      have HRR : Hid (R = false) := Lib.hid (by rw [HRG.out]; rw [← HRG.out, HE.out]; simp [hn])
      go_wp2
      go_ret
      exact ⟨retB HRR.out.symm, ((B2.out.setCell (p := ⟨_, 6, none⟩) (Nat.le_succ _) _).setCell (p := ⟨_, 7, none⟩) (Nat.le_succ _) _).drew⟩
  · have q1 : (k == 1) = false := by simp; omega
    have q2 : (k == 2) = false := by simp; omega
    have q3 : (k == 3) = false := by simp; omega
    have q4 : (k == 4) = false := by simp; omega
    have q5 : (k == 5) = false := by simp; omega
    have q6 : (k == 6) = false := by simp; omega
    have q7 : (k == 7) = false := by simp; omega
    have q8 : (k == 8) = false := by simp; omega
    have HRR : Hid (R = false) := Lib.hid (by rw [HRG.out]; first | (simp [rgb, *]; done) | (simp [rgb, *]; omega) | (simp [rgb]; omega))
    go_wp2
    go_ret
    exact ⟨retB HRR.out.symm, B2.out⟩
end Go.Proofs.Ythjelilmlbbalaa.Eg
namespace Go.Proofs.Ythjelilmlbbalaa.Ec
open Go.RowKit Go.Proofs.Ythjelilmlbbalaa.Vm Go.Proofs.Ythjelilmlbbalaa.Vo Go.Proofs.Ythjelilmlbbalaa.Bw Go.Proofs.Ythjelilmlbbalaa.Na Go.Proofs.Ythjelilmlbbalaa.Tm Go.Proofs.Ythjelilmlbbalaa.Ta Go.Proofs.Ythjelilmlbbalaa.Tb Go.Proofs.Ythjelilmlbbalaa.Tf Go.Proofs.Ythjelilmlbbalaa.Tj Go.Proofs.Ythjelilmlbbalaa.Rm Go.Proofs.Ythjelilmlbbalaa.Rv Go.Proofs.Ythjelilmlbbalaa.Ra Go.Proofs.Ythjelilmlbbalaa.Re Go.Proofs.Ythjelilmlbbalaa.Rf Go.Proofs.Ythjelilmlbbalaa.Rg Go.Proofs.Ythjelilmlbbalaa.Eb Go.Proofs.Ythjelilmlbbalaa.Eg

set_option maxHeartbeats 2000000 in
set_option maxRecDepth 100000 in
theorem Check_any {A : Option Addr} {cap : Nat} {l : List Nd} (hl : l.length ≤ 1000000) {w : World} (H : Hid (nds w A l)) :
    Calls Try.prog 31 #[.slice A l.length cap] w fun e w' => e = .returned (.int .i64 (checkI l)) ∧ Below w.heap.size w w' := by
  have HEnd : Hid (Calls Try.prog 53 #[.slice A l.length cap, .int .i64 0] w fun e w' => e = .returned (.int .i64 (endI l 0)) ∧ w = w') := Lib.hid (End_any hl 0 (by omega) H)
  obtain ⟨N, hN⟩ : ∃ N, N = l.length := ⟨_, rfl⟩
  obtain ⟨E, hE⟩ : ∃ E, E = endI l 0 := ⟨_, rfl⟩
  obtain ⟨R, hR⟩ : ∃ R, R = checkI l := ⟨_, rfl⟩
  rw [← hN, ← hE] at HEnd
  rw [← hN, ← hR]
  rw [← hN] at hl
  have HN := Lib.hid hN
  have HE := Lib.hid hE
  have HR := Lib.hid hR
  clear hN hE hR
  by_cases h4 : 400 < N
  · have h4' : (400 : Int) < (N : Int) := by omega
    have HX : Hid (R = 4) := Lib.hid (by rw [HR.out, checkI_big (by rw [← HN.out]; omega)])
    go_enter Try.func31, Try.ntmps31
    go_wp2
    go_ret
    exact ⟨ret_i64 HX.out.symm, Below.refl _ _⟩
  · have h4' : ¬ (400 : Int) < (N : Int) := by omega
    by_cases he : E = (N : Int)
    · have hEN : (E != (N : Int)) = false := by simp [he]
      have HEE := Lib.hid he
      have HHH : Hid (N ≤ 400) := Lib.hid (by omega)
      clear he h4
      go_enter Try.func31, Try.ntmps31
      go_wp2_with (go_at_call 53; refine HEnd.out.mono ?_; rintro e w9 ⟨rfl, rfl⟩)
      go_loopw [4, 17] (fun _ s3 wr => ∃ j : Nat, s3 = .int .i64 (j : Int) ∧ j ≤ N ∧ Hid (∀ i x, i < j → l[i]? = some x → right x) ∧ Hid (Below w.heap.size w wr)) (fun _ s3 _ => N - (intOf s3).toNat)
      case atStart => exact ⟨0, rfl, by omega, Lib.hid (fun i x hi => absurd hi (by omega)), Lib.hid (Below.refl _ _)⟩
      case round =>
        obtain ⟨j, rfl, hj, HA, HB⟩ := hrel
        by_cases hjn : j < N
        · obtain ⟨x, hx⟩ : ∃ x, l[j]? = some x := ⟨_, List.getElem?_eq_getElem (by rw [← HN.out]; exact hjn)⟩
          have HJX := Lib.hid hx
          obtain ⟨b, off, rfl, hb, hp⟩ := (H.out.below HB.out) _ x hx
          have c0 := hp.c0
          have c1 := hp.c1
          have c6 := hp.c6
          have c7 := hp.c7
          obtain ⟨x0, x1, x2, x3, hs, c2, c3, c4, c5⟩ := hp.four
          obtain ⟨xk, xn, xs, xl, xh⟩ := x
          dsimp only at c0 c1 c6 c7 hs
          subst hs
          obtain ⟨rb, hrb⟩ : ∃ rb, rb = decide (right ⟨xk, xn, [x0, x1, x2, x3], xl, xh⟩) := ⟨_, rfl⟩
          have HRT : Hid (∀ w, Calls Try.prog 54 #[.agg #[.int .i64 xk, .int .i64 xn, .int .u64 (x0 : Int), .int .u64 (x1 : Int), .int .u64 (x2 : Int), .int .u64 (x3 : Int), .int .i64 xl, .int .i64 xh]] w fun e w' => e = .returned (.bool rb) ∧ Below w.heap.size w w') := Lib.hid (fun w => by rw [hrb]; exact right_any _ _ _ _ _ _ _ _)
          have HRB := Lib.hid hrb
          have hj' : (j : Int) < (N : Int) := by omega
          have hj0 : (0 : Int) ≤ (j : Int) := by omega
          have HJN := Lib.hid hjn
          clear hx hp hrb hjn hb
          cases rb with
          | false =>
            have HX : Hid (R = 4) := Lib.hid (by rw [HR.out, checkI_node HJX.out (by simpa using HRB.out.symm)])
            go_wp2_with (go_at_call 54; refine (HRT.out _).mono ?_; rintro e w9 ⟨rfl, k9⟩; have K9 := Lib.hid k9; clear k9)
            go_ret
            exact ⟨ret_i64 HX.out.symm, grows (HB.out.alloc HB.out.size _) K9.out⟩
          | true =>
            have HA' : Hid (∀ i x, i < j + 1 → l[i]? = some x → right x) := Lib.hid (fun i y hi hy => by
              rcases (show i < j ∨ i = j by omega) with h | rfl
              · exact HA.out i y h hy
              · rw [HJX.out] at hy
                obtain rfl := Option.some.inj hy
                simpa using HRB.out.symm)
            go_wp2_with (go_at_call 54; refine (HRT.out _).mono ?_; rintro e w9 ⟨rfl, k9⟩; have K9 := Lib.hid k9; clear k9)
            go_roundw
            case rel => exact ⟨j + 1, by go_num, by have := HJN.out; omega, HA', Lib.hid (grows (HB.out.alloc HB.out.size _) K9.out)⟩
            case measure => have := HJN.out; simp [intOf]; omega
        · have hj' : ¬ (j : Int) < (N : Int) := by omega
          have HX : Hid (R = 0) := Lib.hid (by
            rw [HR.out, checkI_ok (by rw [← HN.out]; exact HHH.out) (by rw [← HE.out, HEE.out, HN.out]) (fun i x hi hx => HA.out i x (by have := HN.out; omega) hx)])
          go_wp2
          go_ret
          exact ⟨ret_i64 HX.out.symm, HB.out⟩
    · have hEN : (E == (N : Int)) = false := by simp [he]
      have HX : Hid (R = 4) := Lib.hid (by rw [HR.out, checkI_end (by rw [← HE.out, ← HN.out]; exact he)])
      clear he h4
      go_enter Try.func31, Try.ntmps31
      go_wp2_with (go_at_call 53; refine HEnd.out.mono ?_; rintro e w9 ⟨rfl, rfl⟩)
      go_ret
      exact ⟨ret_i64 HX.out.symm, Below.refl _ _⟩
end Go.Proofs.Ythjelilmlbbalaa.Ec
