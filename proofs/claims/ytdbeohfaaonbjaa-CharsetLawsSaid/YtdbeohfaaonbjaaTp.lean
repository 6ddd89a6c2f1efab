/-
  The reference's Show.
  Conditions: as each theorem says.
-/
import Derived.Test.YtdbeohfaaonbjaaTo
namespace Go.Proofs.Ytdbeohfaaonbjaa.Tp
open Go.RowKit Go.PlainAid Go.Proofs.Ytdbeohfaaonbjaa.Vm Go.Proofs.Ytdbeohfaaonbjaa.Vo Go.Proofs.Ytdbeohfaaonbjaa.Bw Go.Proofs.Ytdbeohfaaonbjaa.Ba Go.Proofs.Ytdbeohfaaonbjaa.Na Go.Proofs.Ytdbeohfaaonbjaa.Tm Go.Proofs.Ytdbeohfaaonbjaa.Ts Go.Proofs.Ytdbeohfaaonbjaa.Ta Go.Proofs.Ytdbeohfaaonbjaa.Tb Go.Proofs.Ytdbeohfaaonbjaa.Tc Go.Proofs.Ytdbeohfaaonbjaa.Td Go.Proofs.Ytdbeohfaaonbjaa.Te Go.Proofs.Ytdbeohfaaonbjaa.Tf Go.Proofs.Ytdbeohfaaonbjaa.Tj Go.Proofs.Ytdbeohfaaonbjaa.Tg Go.Proofs.Ytdbeohfaaonbjaa.Th Go.Proofs.Ytdbeohfaaonbjaa.Ti Go.Proofs.Ytdbeohfaaonbjaa.Tn Go.Proofs.Ytdbeohfaaonbjaa.To

theorem sz_of (s : ByteArray) : s.data.toList.length = s.size := Array.length_toList
set_option maxHeartbeats 2000000 in
set_option maxRecDepth 100000 in
theorem rShow_one {a : List Nat} (ha : isSet a) (hn : (byt a).length = 1) (w : World) :
    Calls Try.prog 24 #[.agg (sv a)] w fun e w' => e = .returned (.string ⟨(shwQ a (notL a)).toArray⟩) ∧ Below w.heap.size w w' := by
  have HX : Hid (Blk (w.alloc (.cells (sv a) 25)) w.heap.size 25 (sv a)) := Lib.hid (Blk.fresh w _ _)
  have HW : Hid (Below w.heap.size w (w.alloc (.cells (sv a) 25))) := Lib.hid (below_alloc _ _)
  have HS : Hid ((w.alloc (.cells (sv a) 25)).heap.size = w.heap.size + 1) := Lib.hid (size_alloc _ _)
  have H4 : Hid ((sv a).size = 4) := Lib.hid (sv4 ha)
  obtain ⟨R, hR⟩ : ∃ R, R = shwQ a (notL a) := ⟨_, rfl⟩
  rw [← hR]
  have HBy := Lib.hid (fun w => rBytes_any ha w)
  obtain ⟨sa, hsa⟩ : ∃ s : ByteArray, s = ⟨(bts a).toArray⟩ := ⟨_, rfl⟩
  rw [← hsa] at HBy
  have hna : nl sa = byt a := by rw [hsa, bts_nl]
  have za : sa.size ≤ 256 := by rw [hsa]; exact bts_size a
  have h1 : sa.size = 1 := by rw [← nl_len, hna]; exact hn
  obtain ⟨x, hx⟩ : ∃ x, byt a = [x] := List.length_eq_one_iff.1 (by rw [← hna, nl_len]; exact h1)
  have hx256 : x < 256 := (mem_byt.1 (by rw [hx]; simp : x ∈ byt a)).1
  have HR : Hid (R = nota x) := Lib.hid (by rw [hR, shw_one hx])
  have hb0 : bt sa 0 = (x : Int) := (nl_get (s := sa) (k := 0) (by rw [hna, hx]; rfl)).2.1
  have hgb := get_bt sa
  have z0 : (0 : Int) < (sa.size : Int) := by omega
  have h1' : (sa.size : Int) = 1 := by omega
  clear hR h1 hx hna hsa za
  go_enter Try.func24, Try.ntmps24
  go_wp2_with (first | refine wpList_load_row rfl 25 _ rfl w.heap.size rfl _ _ _ _ HX.out Try.underlying25 rfl (fit H4.out) ?_ | (go_at_call 21; refine (HBy.out _).mono ?_; rintro e w1 ⟨rfl, k1⟩; have K1 := Lib.hid k1; clear k1) | (go_at_call 31; refine (rByte_any hx256 _).mono ?_; rintro e w2 ⟨rfl, k2⟩; have K2 := Lib.hid k2; clear k2))
  go_ret
  exact ⟨ret_str (by rw [HR.out]), HW.out.trans ((grows K1.out K2.out).mono HW.out.size)⟩

set_option maxHeartbeats 2000000 in
set_option maxRecDepth 100000 in
theorem rShow_low {a : List Nat} (ha : isSet a) (hn1 : (byt a).length ≠ 1) (hn2 : ¬ 128 < (byt a).length) (w : World) :
    Calls Try.prog 24 #[.agg (sv a)] w fun e w' => e = .returned (.string ⟨(shwQ a (notL a)).toArray⟩) ∧ Below w.heap.size w w' := by
  have HX : Hid (Blk (w.alloc (.cells (sv a) 25)) w.heap.size 25 (sv a)) := Lib.hid (Blk.fresh w _ _)
  have HW : Hid (Below w.heap.size w (w.alloc (.cells (sv a) 25))) := Lib.hid (below_alloc _ _)
  have HS : Hid ((w.alloc (.cells (sv a) 25)).heap.size = w.heap.size + 1) := Lib.hid (size_alloc _ _)
  have H4 : Hid ((sv a).size = 4) := Lib.hid (sv4 ha)
  obtain ⟨R, hR⟩ : ∃ R, R = shwQ a (notL a) := ⟨_, rfl⟩
  rw [← hR]
  have HBy := Lib.hid (fun w => rBytes_any ha w)
  obtain ⟨sa, hsa⟩ : ∃ s : ByteArray, s = ⟨(bts a).toArray⟩ := ⟨_, rfl⟩
  rw [← hsa] at HBy
  have hna : nl sa = byt a := by rw [hsa, bts_nl]
  have za : sa.size ≤ 256 := by rw [hsa]; exact bts_size a
  have h1 : sa.size ≠ 1 := by rw [← nl_len, hna]; exact hn1
  have h2 : ¬ 128 < sa.size := by rw [← nl_len, hna]; exact hn2
  have h1' : ((sa.size : Int) == 1) = false := by rw [beq_eq_false_iff_ne]; omega
  have HNL : Hid (nl sa = byt a) := Lib.hid hna
  have HA : Hid (asc (nl sa)) := Lib.hid (by rw [hna]; exact asc_byt a)
  have HR : Hid (R = [91] ++ lstQ (nl sa) ++ [93]) := Lib.hid (by
    rw [hR, shw_low (by rw [← hna, nl_len]; exact h1) (by rw [← hna, nl_len]; exact h2), hna]; simp)
  have HLB : Hid ((lstQ (nl sa)).length ≤ 1024) := Lib.hid (by have := lstQ_le (nl sa); rw [nl_len] at this; omega)
  have HZA := Lib.hid za
  have h2' : ¬ (128 : Int) < (sa.size : Int) := by omega
  obtain ⟨M, hM⟩ : ∃ M, M = lstQ (nl sa) := ⟨_, rfl⟩
  have HM := Lib.hid hM
  rw [← hM] at HR HLB
  clear hR h1 h2 hna hsa hM
  go_enter Try.func24, Try.ntmps24
  go_wp2_with (first | refine wpList_load_row rfl 25 _ rfl w.heap.size rfl _ _ _ _ HX.out Try.underlying25 rfl (fit H4.out) ?_ | (go_at_call 21; refine (HBy.out _).mono ?_; rintro e w1 ⟨rfl, k1⟩; have K1 := Lib.hid k1; clear k1))
  clear h1' h2'
  go_loopw [5, 4] (fun i t wr => ∃ (k : Nat) (P : List UInt8) (S : ByteArray), i = .int .i64 (k : Int) ∧ t = .string S ∧ k ≤ sa.size ∧ S.size ≤ 1026 ∧ Hid (S.data.toList = [91] ++ P) ∧ Hid (M = P ++ lstQ ((nl sa).drop k)) ∧ Hid (Below w1.heap.size w1 wr))
    (fun i _ _ => sa.size - (intOf i).toNat)
  case atStart => exact ⟨0, [], _, rfl, rfl, by omega, by decide, Lib.hid rfl, Lib.hid (by rw [HM.out]; rfl), Lib.hid (Below.refl _ _)⟩
  case round =>
    obtain ⟨k, P, S, rfl, rfl, hk, hS, HSL, HP, HB⟩ := hrel
    by_cases h8 : k < sa.size
    · obtain ⟨x, hx⟩ : ∃ x, (nl sa)[k]? = some x := ⟨_, List.getElem?_eq_getElem (by rw [nl_len]; omega)⟩
      have hd := lstQ_at hx
      obtain ⟨r, hr⟩ : ∃ r, r = (nl sa).drop (k + 1) := ⟨_, rfl⟩
      rw [← hr] at hd
      obtain ⟨_, b0, x256⟩ := nl_get hx
      have HD := Lib.hid hd
      have HRR := Lib.hid hr
      have hxl : (x :: r).length = sa.size - k := by rw [← hd, List.length_drop, nl_len]
      have HXL := Lib.hid hxl
      have hlt : (k : Int) < (sa.size : Int) := by omega
      have H8 := Lib.hid h8
      have HASC : Hid (asc (x :: r)) := Lib.hid (by rw [← hd]; exact asc_drop HA.out k)
      clear hd hr hx h8 hxl
      go_wp2
      go_loopw [6] (fun n wr => ∃ q : Nat, n = .int .i64 (q : Int) ∧ 1 ≤ q ∧ k + q ≤ sa.size ∧ Hid (∀ j, j < q → (x :: r)[j]? = some (x + j)) ∧ Hid (Below w1.heap.size w1 wr))
        (fun n _ => sa.size - (intOf n).toNat)
      case atStart =>
        have h0 : ∀ j, j < 1 → (x :: r)[j]? = some (x + j) := fun j hj => by
          have e : j = 0 := by omega
          subst e; rfl
        exact ⟨1, rfl, by omega, by have := H8.out; omega, Lib.hid h0, HB⟩
      case round =>
        obtain ⟨q, rfl, hq1, hq, HQ, HB⟩ := hrel
        obtain ⟨p, hp⟩ : ∃ p, p = k + q := ⟨_, rfl⟩
        have HPQ := Lib.hid hp
        have e1 : IntKind.i64.wrap ((k : Int) + (q : Int)) = (p : Int) := by rw [IntKind.wrap_i64]; omega
        have p0 : (0 : Int) ≤ (p : Int) := by omega
        have k0 : (0 : Int) ≤ (k : Int) := by omega
        have hb := get_bt sa
        by_cases h9 : p < sa.size
        · have p1 : (p : Int) < (sa.size : Int) := by omega
          obtain ⟨y, hy⟩ : ∃ y, (x :: r)[q]? = some y := ⟨_, List.getElem?_eq_getElem (by rw [HXL.out]; omega)⟩
          have hyp : (nl sa)[p]? = some y := by rw [hp, ← List.getElem?_drop, HD.out]; exact hy
          obtain ⟨_, b1, z256⟩ := nl_get hyp
          have HYP := Lib.hid hyp
          have H9 := Lib.hid h9
          by_cases hxy : y = x + q
          · have hxb : ((y : Int) == (x : Int) + (q : Int)) = true := by rw [beq_iff_eq]; omega
            have HR2 : Hid (∀ j, j < q + 1 → (x :: r)[j]? = some (x + j)) := Lib.hid (fun j hj => by
              by_cases e : j = q
              · subst e; rw [hy, hxy]
              · exact HQ.out j (by omega))
            clear hp hy hyp hxy h9
            go_wp2_with fail
            go_quiet (fail)
            go_wp2
            go_roundw
            case rel => exact ⟨q + 1, by go_num, by omega, by have := H9.out; have := HPQ.out; omega, HR2, Lib.hid (grows HB.out (below_draws _ _))⟩
            case measure => have := H9.out; have := HPQ.out; simp [intOf]; omega
          · have hxb : ((y : Int) == (x : Int) + (q : Int)) = false := by rw [beq_eq_false_iff_ne]; omega
            have HE : Hid (runF x r + 1 = q) := Lib.hid (by
              obtain ⟨j, rfl⟩ : ∃ j, q = j + 1 := ⟨q - 1, by omega⟩
              congr 1
              refine runF_is (fun i hi => HQ.out i (by omega)) (fun e => hxy ?_)
              rw [hy] at e
              injection e with e
              all_goals omega)
            clear hp hy hyp hxy h9
            go_wp2_with fail
            go_quiet (fail)
            have HQ1 := Lib.hid hq1
            by_cases h3 : 3 ≤ q
            · obtain ⟨m, hm⟩ : ∃ m, p = m + 1 := ⟨p - 1, by have := HPQ.out; omega⟩
              obtain ⟨j, hj⟩ : ∃ j, q = j + 1 := ⟨q - 1, by omega⟩
              have hlast : (nl sa)[m]? = some (x + j) := by
                have h1 := HQ.out j (by omega)
                rw [← HD.out, List.getElem?_drop] at h1
                rw [show m = k + j by have := HPQ.out; omega]; exact h1
              obtain ⟨m1, b2, y256⟩ := nl_get hlast
              obtain ⟨y, hy⟩ : ∃ y, y = x + j := ⟨_, rfl⟩
              rw [← hy] at b2 y256
              have HY : Hid (y = x + runF x r) := Lib.hid (by have := HE.out; omega)
              have H2 : Hid (2 ≤ runF x r) := Lib.hid (by have := HE.out; omega)
              obtain ⟨t0, ht0⟩ : ∃ s : ByteArray, s = ⟨(nota x).toArray⟩ := ⟨_, rfl⟩
              obtain ⟨t1, ht1⟩ : ∃ s : ByteArray, s = ⟨(nota y).toArray⟩ := ⟨_, rfl⟩
              have C0 := Lib.hid (fun w => rByte_any x256 w)
              have C1 := Lib.hid (fun w => rByte_any y256 w)
              rw [← ht0] at C0
              rw [← ht1] at C1
              have z0 : t0.size ≤ 4 := by rw [ht0]; exact nota_size x
              have z1 : t1.size ≤ 4 := by rw [ht1]; exact nota_size y
              have g1 : ¬ 9223372036854775807 < S.size + t0.size := by omega
              have g2 : ¬ 9223372036854775807 < (S ++ t0).size + (⟨#[45]⟩ : ByteArray).size := by rw [ByteArray.size_append]; show ¬ _ < _ + 1; omega
              have g3 : ¬ 9223372036854775807 < (S ++ t0 ++ ⟨#[45]⟩).size + t1.size := by rw [ByteArray.size_append, ByteArray.size_append]; show ¬ _ < _ + 1 + _; omega
              have HT : Hid ((S ++ t0 ++ ⟨#[45]⟩ ++ t1).data.toList = [91] ++ (P ++ (nota x ++ 45 :: nota y))) := Lib.hid (by
                simp only [ByteArray.data_append, Array.toList_append, HSL.out, ht0, ht1]
                simp)
              have HP2 : Hid (M = (P ++ (nota x ++ 45 :: nota y)) ++ lstQ ((nl sa).drop p)) := Lib.hid (by
                have e := HP.out
                have hdp : ∀ f, p = k + 1 + f → r.drop f = (nl sa).drop p := fun f hf => by rw [HRR.out, List.drop_drop, hf]
                rw [HD.out, lstQ_run H2.out, ← HY.out, hdp _ (by have := HE.out; have := HPQ.out; omega)] at e
                rw [e]; simp)
              have HSZ : Hid ((S ++ t0 ++ ⟨#[45]⟩ ++ t1).size ≤ 1026) := Lib.hid (by
                have h1 : (S ++ t0 ++ ⟨#[45]⟩ ++ t1).size = ((S ++ t0 ++ ⟨#[45]⟩ ++ t1).data.toList).length := (sz_of _).symm
                have h2 := HLB.out
                rw [HP2.out, List.length_append] at h2
                rw [h1, HT.out, List.length_append]
                have : ([91] : List UInt8).length ≤ 2 := by decide
                omega)
              have e3 : IntKind.i64.wrap ((p : Int) - 1) = (m : Int) := by rw [IntKind.wrap_i64]; omega
              have m0 : (0 : Int) ≤ (m : Int) := by omega
              have m1' : (m : Int) < (sa.size : Int) := by omega
              have h3' : (3 : Int) ≤ (q : Int) := by omega
              clear hm hj hlast hy ht0 ht1 h3
              go_wp2_with fail
              have KB := Lib.hid (show Below w1.heap.size w1 (wr.drewN nq).drew from below_drew (grows HB.out (below_draws _ nq)))
              go_region_with (first | (go_at_call 31; (with_reducible refine (C0.out _).mono ?_); rintro e w2 ⟨rfl, k2⟩; have KB := Lib.hid (grows KB.out k2); clear k2) | (go_at_call 31; (with_reducible refine (C1.out _).mono ?_); rintro e w2 ⟨rfl, k2⟩; have KB := Lib.hid (grows KB.out k2); clear k2))
              all_goals go_wp2
              all_goals go_roundw
              all_goals first | exact ⟨p, P ++ (nota x ++ 45 :: nota y), _, by go_num, rfl, by have := HPQ.out; omega, HSZ.out, HT, HP2, KB⟩ | (have := HPQ.out; have := HQ1.out; simp [intOf]; omega)
            · have HO : Hid (¬ 2 ≤ runF x r) := Lib.hid (by have := HE.out; omega)
              obtain ⟨t0, ht0⟩ : ∃ s : ByteArray, s = ⟨(nota x).toArray⟩ := ⟨_, rfl⟩
              have C0 := Lib.hid (fun w => rByte_any x256 w)
              rw [← ht0] at C0
              have z0 : t0.size ≤ 4 := by rw [ht0]; exact nota_size x
              have g1 : ¬ 9223372036854775807 < S.size + t0.size := by omega
              have HT : Hid ((S ++ t0).data.toList = [91] ++ (P ++ nota x)) := Lib.hid (by
                simp only [ByteArray.data_append, Array.toList_append, HSL.out, ht0]
                simp)
              have HP2 : Hid (M = (P ++ nota x) ++ lstQ ((nl sa).drop (k + 1))) := Lib.hid (by
                have e := HP.out
                rw [HD.out, lstQ_one HO.out, HRR.out] at e
                rw [e]; simp)
              have HSZ : Hid ((S ++ t0).size ≤ 1026) := Lib.hid (by
                have h1 : (S ++ t0).size = ((S ++ t0).data.toList).length := (sz_of _).symm
                have h2 := HLB.out
                rw [HP2.out, List.length_append] at h2
                rw [h1, HT.out, List.length_append]
                have : ([91] : List UInt8).length ≤ 2 := by decide
                omega)
              have h3' : ¬ (3 : Int) ≤ (q : Int) := by omega
              clear ht0 h3
              go_wp2_with (go_at_call 31; refine (C0.out _).mono ?_; rintro e w2 ⟨rfl, k2⟩; have K2 := Lib.hid k2; clear k2)
              go_roundw
              case rel => exact ⟨k + 1, P ++ nota x, _, by go_num, rfl, by have := H8.out; omega, HSZ.out, HT, HP2, Lib.hid (grows (grows HB.out (below_draws _ _)) K2.out)⟩
              case measure => have := H8.out; simp [intOf]; omega
        · have HE : Hid (runF x r + 1 = q) := Lib.hid (by
            obtain ⟨j, rfl⟩ : ∃ j, q = j + 1 := ⟨q - 1, by omega⟩
            congr 1
            refine runF_is (fun i hi => HQ.out i (by omega)) (fun e => ?_)
            rw [List.getElem?_eq_none (by rw [HXL.out]; omega)] at e
            cases e)
          have hnb : decide ((p : Int) < (sa.size : Int)) = false := by simp; omega
          have hnbN : decide (p < sa.size) = false := by simp; omega
          clear hp h9
          go_wp2_with fail
          go_quiet (fail)
          have HQ1 := Lib.hid hq1
          by_cases h3 : 3 ≤ q
          · obtain ⟨m, hm⟩ : ∃ m, p = m + 1 := ⟨p - 1, by have := HPQ.out; omega⟩
            obtain ⟨j, hj⟩ : ∃ j, q = j + 1 := ⟨q - 1, by omega⟩
            have hlast : (nl sa)[m]? = some (x + j) := by
              have h1 := HQ.out j (by omega)
              rw [← HD.out, List.getElem?_drop] at h1
              rw [show m = k + j by have := HPQ.out; omega]; exact h1
            obtain ⟨m1, b2, y256⟩ := nl_get hlast
            obtain ⟨y, hy⟩ : ∃ y, y = x + j := ⟨_, rfl⟩
            rw [← hy] at b2 y256
            have HY : Hid (y = x + runF x r) := Lib.hid (by have := HE.out; omega)
            have H2 : Hid (2 ≤ runF x r) := Lib.hid (by have := HE.out; omega)
            obtain ⟨t0, ht0⟩ : ∃ s : ByteArray, s = ⟨(nota x).toArray⟩ := ⟨_, rfl⟩
            obtain ⟨t1, ht1⟩ : ∃ s : ByteArray, s = ⟨(nota y).toArray⟩ := ⟨_, rfl⟩
            have C0 := Lib.hid (fun w => rByte_any x256 w)
            have C1 := Lib.hid (fun w => rByte_any y256 w)
            rw [← ht0] at C0
            rw [← ht1] at C1
            have z0 : t0.size ≤ 4 := by rw [ht0]; exact nota_size x
            have z1 : t1.size ≤ 4 := by rw [ht1]; exact nota_size y
            have g1 : ¬ 9223372036854775807 < S.size + t0.size := by omega
            have g2 : ¬ 9223372036854775807 < (S ++ t0).size + (⟨#[45]⟩ : ByteArray).size := by rw [ByteArray.size_append]; show ¬ _ < _ + 1; omega
            have g3 : ¬ 9223372036854775807 < (S ++ t0 ++ ⟨#[45]⟩).size + t1.size := by rw [ByteArray.size_append, ByteArray.size_append]; show ¬ _ < _ + 1 + _; omega
            have HT : Hid ((S ++ t0 ++ ⟨#[45]⟩ ++ t1).data.toList = [91] ++ (P ++ (nota x ++ 45 :: nota y))) := Lib.hid (by
              simp only [ByteArray.data_append, Array.toList_append, HSL.out, ht0, ht1]
              simp)
            have HP2 : Hid (M = (P ++ (nota x ++ 45 :: nota y)) ++ lstQ ((nl sa).drop p)) := Lib.hid (by
              have e := HP.out
              have hdp : ∀ f, p = k + 1 + f → r.drop f = (nl sa).drop p := fun f hf => by rw [HRR.out, List.drop_drop, hf]
              rw [HD.out, lstQ_run H2.out, ← HY.out, hdp _ (by have := HE.out; have := HPQ.out; omega)] at e
              rw [e]; simp)
            have HSZ : Hid ((S ++ t0 ++ ⟨#[45]⟩ ++ t1).size ≤ 1026) := Lib.hid (by
              have h1 : (S ++ t0 ++ ⟨#[45]⟩ ++ t1).size = ((S ++ t0 ++ ⟨#[45]⟩ ++ t1).data.toList).length := (sz_of _).symm
              have h2 := HLB.out
              rw [HP2.out, List.length_append] at h2
              rw [h1, HT.out, List.length_append]
              have : ([91] : List UInt8).length ≤ 2 := by decide
              omega)
            have e3 : IntKind.i64.wrap ((p : Int) - 1) = (m : Int) := by rw [IntKind.wrap_i64]; omega
            have m0 : (0 : Int) ≤ (m : Int) := by omega
            have m1' : (m : Int) < (sa.size : Int) := by omega
            have h3' : (3 : Int) ≤ (q : Int) := by omega
            clear hm hj hlast hy ht0 ht1 h3
            go_wp2_with fail
            have KB := Lib.hid (show Below w1.heap.size w1 (wr.drewN nq).drew from below_drew (grows HB.out (below_draws _ nq)))
            go_region_with (first | (go_at_call 31; (with_reducible refine (C0.out _).mono ?_); rintro e w2 ⟨rfl, k2⟩; have KB := Lib.hid (grows KB.out k2); clear k2) | (go_at_call 31; (with_reducible refine (C1.out _).mono ?_); rintro e w2 ⟨rfl, k2⟩; have KB := Lib.hid (grows KB.out k2); clear k2))
            all_goals go_wp2
            all_goals go_roundw
            all_goals first | exact ⟨p, P ++ (nota x ++ 45 :: nota y), _, by go_num, rfl, by have := HPQ.out; omega, HSZ.out, HT, HP2, KB⟩ | (have := HPQ.out; have := HQ1.out; simp [intOf]; omega)
          · have HO : Hid (¬ 2 ≤ runF x r) := Lib.hid (by have := HE.out; omega)
            obtain ⟨t0, ht0⟩ : ∃ s : ByteArray, s = ⟨(nota x).toArray⟩ := ⟨_, rfl⟩
            have C0 := Lib.hid (fun w => rByte_any x256 w)
            rw [← ht0] at C0
            have z0 : t0.size ≤ 4 := by rw [ht0]; exact nota_size x
            have g1 : ¬ 9223372036854775807 < S.size + t0.size := by omega
            have HT : Hid ((S ++ t0).data.toList = [91] ++ (P ++ nota x)) := Lib.hid (by
              simp only [ByteArray.data_append, Array.toList_append, HSL.out, ht0]
              simp)
            have HP2 : Hid (M = (P ++ nota x) ++ lstQ ((nl sa).drop (k + 1))) := Lib.hid (by
              have e := HP.out
              rw [HD.out, lstQ_one HO.out, HRR.out] at e
              rw [e]; simp)
            have HSZ : Hid ((S ++ t0).size ≤ 1026) := Lib.hid (by
              have h1 : (S ++ t0).size = ((S ++ t0).data.toList).length := (sz_of _).symm
              have h2 := HLB.out
              rw [HP2.out, List.length_append] at h2
              rw [h1, HT.out, List.length_append]
              have : ([91] : List UInt8).length ≤ 2 := by decide
              omega)
            have h3' : ¬ (3 : Int) ≤ (q : Int) := by omega
            clear ht0 h3
            go_wp2_with (go_at_call 31; refine (C0.out _).mono ?_; rintro e w2 ⟨rfl, k2⟩; have K2 := Lib.hid k2; clear k2)
            go_roundw
            case rel => exact ⟨k + 1, P ++ nota x, _, by go_num, rfl, by have := H8.out; omega, HSZ.out, HT, HP2, Lib.hid (grows (grows HB.out (below_draws _ _)) K2.out)⟩
            case measure => have := H8.out; simp [intOf]; omega
    · have HK : Hid (k = sa.size) := Lib.hid (by omega)
      have hlt : ¬ ((k : Int) < (sa.size : Int)) := by omega
      have g1 : ¬ 9223372036854775807 < S.size + (⟨#[93]⟩ : ByteArray).size := by show ¬ _ < _ + 1; omega
      have g1' : ¬ 9223372036854775807 < S.size + 1 := by omega
      have HEND : Hid ((⟨R.toArray⟩ : ByteArray) = S ++ ⟨#[93]⟩) := Lib.hid (by
        have e1 : P = M := by
          have := HP.out
          rw [HK.out, List.drop_of_length_le (by rw [nl_len]; exact Nat.le_refl _), lstQ_nil, List.append_nil] at this
          exact this.symm
        apply ByteArray.ext
        rw [ByteArray.data_append]
        apply Array.ext'
        rw [Array.toList_append, HSL.out, e1, HR.out])
      clear hk h8
      go_wp2
      go_ret
      exact ⟨ret_str HEND.out.symm, HW.out.trans ((grows K1.out HB.out).mono HW.out.size)⟩
end Go.Proofs.Ytdbeohfaaonbjaa.Tp
