/-
  The reference's Show.
  The program's parser in memory: fail, next, take.
  The program's meaning and numbered: the set of an escape.
  Conditions: as each theorem says.
-/
import Derived.Test.YtabcehifdomolaaDoorQaj
import Derived.Test.YtabcehifdomolaaDoorQah
import Derived.BigQuiet
import Derived.Deep.QuietTactic
import Derived.PlainAid
import Derived.Deep.RegionHeld3
import Derived.Deep.RegionWith
namespace Go.Proofs.YtabcehifdomolaaDoor.Tq
open Go.RowKit Go.PlainAid Go.Proofs.YtabcehifdomolaaDoor.Vm Go.Proofs.YtabcehifdomolaaDoor.Vo Go.Proofs.YtabcehifdomolaaDoor.Bw Go.Proofs.YtabcehifdomolaaDoor.Ba Go.Proofs.YtabcehifdomolaaDoor.Na Go.Proofs.YtabcehifdomolaaDoor.Tm Go.Proofs.YtabcehifdomolaaDoor.Ts Go.Proofs.YtabcehifdomolaaDoor.Ta Go.Proofs.YtabcehifdomolaaDoor.Tb Go.Proofs.YtabcehifdomolaaDoor.Tc Go.Proofs.YtabcehifdomolaaDoor.Td Go.Proofs.YtabcehifdomolaaDoor.Te Go.Proofs.YtabcehifdomolaaDoor.Tf Go.Proofs.YtabcehifdomolaaDoor.Tj Go.Proofs.YtabcehifdomolaaDoor.Tg Go.Proofs.YtabcehifdomolaaDoor.Th Go.Proofs.YtabcehifdomolaaDoor.Ti Go.Proofs.YtabcehifdomolaaDoor.Tn Go.Proofs.YtabcehifdomolaaDoor.To Go.Proofs.YtabcehifdomolaaDoor.Tp

set_option maxHeartbeats 2000000 in
set_option maxRecDepth 100000 in
theorem rShow_big {a : List Nat} (ha : isSet a) (hn1 : (byt a).length ≠ 1) (hn2 : 128 < (byt a).length) (w : World) :
    Calls Tryd.prog 31 #[.agg (sv a)] w fun e w' => e = .returned (.string ⟨(shwQ a (notL a)).toArray⟩) ∧ Below w.heap.size w w' := by
  have HX : Hid (Blk (w.alloc (.cells (sv a) 36)) w.heap.size 36 (sv a)) := Lib.hid (Blk.fresh w _ _)
  have HW : Hid (Below w.heap.size w (w.alloc (.cells (sv a) 36))) := Lib.hid (below_alloc _ _)
  have HS : Hid ((w.alloc (.cells (sv a) 36)).heap.size = w.heap.size + 1) := Lib.hid (size_alloc _ _)
  have H4 : Hid ((sv a).size = 4) := Lib.hid (sv4 ha)
  obtain ⟨R, hR⟩ : ∃ R, R = shwQ a (notL a) := ⟨_, rfl⟩
  rw [← hR]
  have HBy := Lib.hid (fun w => rBytes_any ha w)
  obtain ⟨sa, hsa⟩ : ∃ s : ByteArray, s = ⟨(bts a).toArray⟩ := ⟨_, rfl⟩
  rw [← hsa] at HBy
  have hna : nl sa = byt a := by rw [hsa, bts_nl]
  have za : sa.size ≤ 256 := by rw [hsa]; exact bts_size a
  have h1 : sa.size ≠ 1 := by rw [← nl_len, hna]; exact hn1
  have h2 : 128 < sa.size := by rw [← nl_len, hna]; exact hn2
  have h1' : ((sa.size : Int) == 1) = false := by rw [beq_eq_false_iff_ne]; omega
  have HBn := Lib.hid (fun w => rBytes_any (notL_set ha) w)
  have HNo := Lib.hid (fun w => rNot_any ha w)
  obtain ⟨sb, hsb⟩ : ∃ s : ByteArray, s = ⟨(bts (notL a)).toArray⟩ := ⟨_, rfl⟩
  rw [← hsb] at HBn
  have hnb : nl sb = byt (notL a) := by rw [hsb, bts_nl]
  have zb : sb.size ≤ 256 := by rw [hsb]; exact bts_size _
  have HA : Hid (asc (nl sb)) := Lib.hid (by rw [hnb]; exact asc_byt _)
  have HR : Hid (R = [91, 94] ++ lstQ (nl sb) ++ [93]) := Lib.hid (by
    rw [hR, shw_big (by rw [← hna, nl_len]; exact h1) (by rw [← hna, nl_len]; exact h2), hnb]; simp)
  have HLB : Hid ((lstQ (nl sb)).length ≤ 1024) := Lib.hid (by have := lstQ_le (nl sb); rw [nl_len] at this; omega)
  have h2' : (128 : Int) < (sa.size : Int) := by omega
  obtain ⟨M, hM⟩ : ∃ M, M = lstQ (nl sb) := ⟨_, rfl⟩
  have HM := Lib.hid hM
  rw [← hM] at HR HLB
  obtain ⟨zN, hzN⟩ : ∃ z, z = sv (notL a) := ⟨_, rfl⟩
  rw [← hzN] at HNo HBn
  clear hR h1 h2 hna hnb hsa hsb hM hzN za hn1 hn2
  generalize sv a = z at *
  go_enter Tryd.func31, Tryd.ntmps31
  go_wp2_with (first | refine wpList_load_row rfl 36 _ rfl w.heap.size rfl _ _ _ _ HX.out Tryd.underlying36 rfl (fit H4.out) ?_ | (go_at_call 47; (with_reducible refine (HBy.out _).mono ?_); rintro e w0 ⟨rfl, k0⟩; have K0 := Lib.hid k0; clear k0; have X0 := Lib.hid (HX.out.below K0.out)) | refine wpList_load_row rfl 36 _ rfl w.heap.size rfl _ _ _ _ X0.out Tryd.underlying36 rfl (fit H4.out) ?_ | (go_at_call 49; refine (HNo.out _).mono ?_; rintro e w3 ⟨rfl, k3⟩; have K3 := Lib.hid k3; clear k3) | (go_at_call 47; (with_reducible refine (HBn.out _).mono ?_); rintro e w1 ⟨rfl, k1⟩; have K1 := Lib.hid (grows (grows K0.out K3.out) k1); clear k1))
  clear h1' h2'
  go_loopw [5, 4] (fun i t wr => ∃ (k : Nat) (P : List UInt8) (S : ByteArray), i = .int .i64 (k : Int) ∧ t = .string S ∧ k ≤ sb.size ∧ S.size ≤ 1026 ∧ Hid (S.data.toList = [91, 94] ++ P) ∧ Hid (M = P ++ lstQ ((nl sb).drop k)) ∧ Hid (Below w1.heap.size w1 wr))
    (fun i _ _ => sb.size - (intOf i).toNat)
  case atStart => exact ⟨0, [], _, rfl, rfl, by omega, by decide, Lib.hid rfl, Lib.hid (by rw [HM.out]; rfl), Lib.hid (Below.refl _ _)⟩
  case round =>
    obtain ⟨k, P, S, rfl, rfl, hk, hS, HSL, HP, HB⟩ := hrel
    by_cases h8 : k < sb.size
    · obtain ⟨x, hx⟩ : ∃ x, (nl sb)[k]? = some x := ⟨_, List.getElem?_eq_getElem (by rw [nl_len]; omega)⟩
      have hd := lstQ_at hx
      obtain ⟨r, hr⟩ : ∃ r, r = (nl sb).drop (k + 1) := ⟨_, rfl⟩
      rw [← hr] at hd
      obtain ⟨_, b0, x256⟩ := nl_get hx
      have HD := Lib.hid hd
      have HRR := Lib.hid hr
      have hxl : (x :: r).length = sb.size - k := by rw [← hd, List.length_drop, nl_len]
      have HXL := Lib.hid hxl
      have hlt : (k : Int) < (sb.size : Int) := by omega
      have H8 := Lib.hid h8
      have HASC : Hid (asc (x :: r)) := Lib.hid (by rw [← hd]; exact asc_drop HA.out k)
      clear hd hr hx h8 hxl
      go_wp2
      go_loopw [6] (fun n wr => ∃ q : Nat, n = .int .i64 (q : Int) ∧ 1 ≤ q ∧ k + q ≤ sb.size ∧ Hid (∀ j, j < q → (x :: r)[j]? = some (x + j)) ∧ Hid (Below w1.heap.size w1 wr))
        (fun n _ => sb.size - (intOf n).toNat)
      case atStart =>
        have h0 : ∀ j, j < 1 → (x :: r)[j]? = some (x + j) := fun j hj => by
          have e : j = 0 := by omega
          subst e; rfl
        exact ⟨1, rfl, by omega, by have := H8.out; omega, Lib.hid h0, HB⟩
      case round =>
        obtain ⟨q, rfl, hq1, hq, HQ, HB⟩ := hrel
        obtain ⟨p, hp⟩ : ∃ p, p = k + q := ⟨_, rfl⟩
        have HPQ := Lib.hid hp
        have e1 : IntKind.i64.wrap ((k : Int) + (q : Int)) = (p : Int) := by rw [IntKind.wrap_i64]; omega
        have p0 : (0 : Int) ≤ (p : Int) := by omega
        have k0 : (0 : Int) ≤ (k : Int) := by omega
        have hb := get_bt sb
        by_cases h9 : p < sb.size
        · have p1 : (p : Int) < (sb.size : Int) := by omega
          obtain ⟨y, hy⟩ : ∃ y, (x :: r)[q]? = some y := ⟨_, List.getElem?_eq_getElem (by rw [HXL.out]; omega)⟩
          have hyp : (nl sb)[p]? = some y := by rw [hp, ← List.getElem?_drop, HD.out]; exact hy
          obtain ⟨_, b1, z256⟩ := nl_get hyp
          have HYP := Lib.hid hyp
          have H9 := Lib.hid h9
          by_cases hxy : y = x + q
          · have hxb : ((y : Int) == (x : Int) + (q : Int)) = true := by rw [beq_iff_eq]; omega
            have HR2 : Hid (∀ j, j < q + 1 → (x :: r)[j]? = some (x + j)) := Lib.hid (fun j hj => by
              by_cases e : j = q
              · subst e; rw [hy, hxy]
              · exact HQ.out j (by omega))
            clear hp hy hyp hxy h9
            go_wp2_with fail
            go_quiet (fail)
            go_wp2
            go_roundw
            case rel => exact ⟨q + 1, by go_num, by omega, by have := H9.out; have := HPQ.out; omega, HR2, Lib.hid (grows HB.out (below_draws _ _))⟩
            case measure => have := H9.out; have := HPQ.out; simp [intOf]; omega
          · have hxb : ((y : Int) == (x : Int) + (q : Int)) = false := by rw [beq_eq_false_iff_ne]; omega
            have HE : Hid (runF x r + 1 = q) := Lib.hid (by
              obtain ⟨j, rfl⟩ : ∃ j, q = j + 1 := ⟨q - 1, by omega⟩
              congr 1
              refine runF_is (fun i hi => HQ.out i (by omega)) (fun e => hxy ?_)
              rw [hy] at e
              injection e with e
              all_goals omega)
            clear hp hy hyp hxy h9
            go_wp2_with fail
            go_quiet (fail)
            have HQ1 := Lib.hid hq1
            by_cases h3 : 3 ≤ q
            · obtain ⟨m, hm⟩ : ∃ m, p = m + 1 := ⟨p - 1, by have := HPQ.out; omega⟩
              obtain ⟨j, hj⟩ : ∃ j, q = j + 1 := ⟨q - 1, by omega⟩
              have hlast : (nl sb)[m]? = some (x + j) := by
                have h1 := HQ.out j (by omega)
                rw [← HD.out, List.getElem?_drop] at h1
                rw [show m = k + j by have := HPQ.out; omega]; exact h1
              obtain ⟨m1, b2, y256⟩ := nl_get hlast
              obtain ⟨y, hy⟩ : ∃ y, y = x + j := ⟨_, rfl⟩
              rw [← hy] at b2 y256
              have HY : Hid (y = x + runF x r) := Lib.hid (by have := HE.out; omega)
              have H2 : Hid (2 ≤ runF x r) := Lib.hid (by have := HE.out; omega)
              obtain ⟨t0, ht0⟩ : ∃ s : ByteArray, s = ⟨(nota x).toArray⟩ := ⟨_, rfl⟩
              obtain ⟨t1, ht1⟩ : ∃ s : ByteArray, s = ⟨(nota y).toArray⟩ := ⟨_, rfl⟩
              have C0 := Lib.hid (fun w => rByte_any x256 w)
              have C1 := Lib.hid (fun w => rByte_any y256 w)
              rw [← ht0] at C0
              rw [← ht1] at C1
              have z0 : t0.size ≤ 4 := by rw [ht0]; exact nota_size x
              have z1 : t1.size ≤ 4 := by rw [ht1]; exact nota_size y
              have g1 : ¬ 9223372036854775807 < S.size + t0.size := by omega
              have g2 : ¬ 9223372036854775807 < (S ++ t0).size + (⟨#[45]⟩ : ByteArray).size := by rw [ByteArray.size_append]; show ¬ _ < _ + 1; omega
              have g3 : ¬ 9223372036854775807 < (S ++ t0 ++ ⟨#[45]⟩).size + t1.size := by rw [ByteArray.size_append, ByteArray.size_append]; show ¬ _ < _ + 1 + _; omega
              have HT : Hid ((S ++ t0 ++ ⟨#[45]⟩ ++ t1).data.toList = [91, 94] ++ (P ++ (nota x ++ 45 :: nota y))) := Lib.hid (by
                simp only [ByteArray.data_append, Array.toList_append, HSL.out, ht0, ht1]
                simp)
              have HP2 : Hid (M = (P ++ (nota x ++ 45 :: nota y)) ++ lstQ ((nl sb).drop p)) := Lib.hid (by
                have e := HP.out
                have hdp : ∀ f, p = k + 1 + f → r.drop f = (nl sb).drop p := fun f hf => by rw [HRR.out, List.drop_drop, hf]
                rw [HD.out, lstQ_run H2.out, ← HY.out, hdp _ (by have := HE.out; have := HPQ.out; omega)] at e
                rw [e]; simp)
              have HSZ : Hid ((S ++ t0 ++ ⟨#[45]⟩ ++ t1).size ≤ 1026) := Lib.hid (by
                have h1 : (S ++ t0 ++ ⟨#[45]⟩ ++ t1).size = ((S ++ t0 ++ ⟨#[45]⟩ ++ t1).data.toList).length := (sz_of _).symm
                have h2 := HLB.out
                rw [HP2.out, List.length_append] at h2
                rw [h1, HT.out, List.length_append]
                have : ([91, 94] : List UInt8).length ≤ 2 := by decide
                omega)
              have e3 : IntKind.i64.wrap ((p : Int) - 1) = (m : Int) := by rw [IntKind.wrap_i64]; omega
              have m0 : (0 : Int) ≤ (m : Int) := by omega
              have m1' : (m : Int) < (sb.size : Int) := by omega
              have h3' : (3 : Int) ≤ (q : Int) := by omega
              clear hm hj hlast hy ht0 ht1 h3
              go_wp2_with fail
              have KB := Lib.hid (show Below w1.heap.size w1 (wr.drewN nq).drew from below_drew (grows HB.out (below_draws _ nq)))
              go_region_with (first | (go_at_call 48; (with_reducible refine (C0.out _).mono ?_); rintro e w2 ⟨rfl, k2⟩; have KB := Lib.hid (grows KB.out k2); clear k2) | (go_at_call 48; (with_reducible refine (C1.out _).mono ?_); rintro e w2 ⟨rfl, k2⟩; have KB := Lib.hid (grows KB.out k2); clear k2))
              all_goals go_wp2
              all_goals go_roundw
              all_goals first | exact ⟨p, P ++ (nota x ++ 45 :: nota y), _, by go_num, rfl, by have := HPQ.out; omega, HSZ.out, HT, HP2, KB⟩ | (have := HPQ.out; have := HQ1.out; simp [intOf]; omega)
            · have HO : Hid (¬ 2 ≤ runF x r) := Lib.hid (by have := HE.out; omega)
              obtain ⟨t0, ht0⟩ : ∃ s : ByteArray, s = ⟨(nota x).toArray⟩ := ⟨_, rfl⟩
              have C0 := Lib.hid (fun w => rByte_any x256 w)
              rw [← ht0] at C0
              have z0 : t0.size ≤ 4 := by rw [ht0]; exact nota_size x
              have g1 : ¬ 9223372036854775807 < S.size + t0.size := by omega
              have HT : Hid ((S ++ t0).data.toList = [91, 94] ++ (P ++ nota x)) := Lib.hid (by
                simp only [ByteArray.data_append, Array.toList_append, HSL.out, ht0]
                simp)
              have HP2 : Hid (M = (P ++ nota x) ++ lstQ ((nl sb).drop (k + 1))) := Lib.hid (by
                have e := HP.out
                rw [HD.out, lstQ_one HO.out, HRR.out] at e
                rw [e]; simp)
              have HSZ : Hid ((S ++ t0).size ≤ 1026) := Lib.hid (by
                have h1 : (S ++ t0).size = ((S ++ t0).data.toList).length := (sz_of _).symm
                have h2 := HLB.out
                rw [HP2.out, List.length_append] at h2
                rw [h1, HT.out, List.length_append]
                have : ([91, 94] : List UInt8).length ≤ 2 := by decide
                omega)
              have h3' : ¬ (3 : Int) ≤ (q : Int) := by omega
              clear ht0 h3
              go_wp2_with (go_at_call 48; refine (C0.out _).mono ?_; rintro e w2 ⟨rfl, k2⟩; have K2 := Lib.hid k2; clear k2)
              go_roundw
              case rel => exact ⟨k + 1, P ++ nota x, _, by go_num, rfl, by have := H8.out; omega, HSZ.out, HT, HP2, Lib.hid (grows (grows HB.out (below_draws _ _)) K2.out)⟩
              case measure => have := H8.out; simp [intOf]; omega
        · have HE : Hid (runF x r + 1 = q) := Lib.hid (by
            obtain ⟨j, rfl⟩ : ∃ j, q = j + 1 := ⟨q - 1, by omega⟩
            congr 1
            refine runF_is (fun i hi => HQ.out i (by omega)) (fun e => ?_)
            rw [List.getElem?_eq_none (by rw [HXL.out]; omega)] at e
            cases e)
          have hnb : decide ((p : Int) < (sb.size : Int)) = false := by simp; omega
          have hnbN : decide (p < sb.size) = false := by simp; omega
          clear hp h9
          go_wp2_with fail
          go_quiet (fail)
          have HQ1 := Lib.hid hq1
          by_cases h3 : 3 ≤ q
          · obtain ⟨m, hm⟩ : ∃ m, p = m + 1 := ⟨p - 1, by have := HPQ.out; omega⟩
            obtain ⟨j, hj⟩ : ∃ j, q = j + 1 := ⟨q - 1, by omega⟩
            have hlast : (nl sb)[m]? = some (x + j) := by
              have h1 := HQ.out j (by omega)
              rw [← HD.out, List.getElem?_drop] at h1
              rw [show m = k + j by have := HPQ.out; omega]; exact h1
            obtain ⟨m1, b2, y256⟩ := nl_get hlast
            obtain ⟨y, hy⟩ : ∃ y, y = x + j := ⟨_, rfl⟩
            rw [← hy] at b2 y256
            have HY : Hid (y = x + runF x r) := Lib.hid (by have := HE.out; omega)
            have H2 : Hid (2 ≤ runF x r) := Lib.hid (by have := HE.out; omega)
            obtain ⟨t0, ht0⟩ : ∃ s : ByteArray, s = ⟨(nota x).toArray⟩ := ⟨_, rfl⟩
            obtain ⟨t1, ht1⟩ : ∃ s : ByteArray, s = ⟨(nota y).toArray⟩ := ⟨_, rfl⟩
            have C0 := Lib.hid (fun w => rByte_any x256 w)
            have C1 := Lib.hid (fun w => rByte_any y256 w)
            rw [← ht0] at C0
            rw [← ht1] at C1
            have z0 : t0.size ≤ 4 := by rw [ht0]; exact nota_size x
            have z1 : t1.size ≤ 4 := by rw [ht1]; exact nota_size y
            have g1 : ¬ 9223372036854775807 < S.size + t0.size := by omega
            have g2 : ¬ 9223372036854775807 < (S ++ t0).size + (⟨#[45]⟩ : ByteArray).size := by rw [ByteArray.size_append]; show ¬ _ < _ + 1; omega
            have g3 : ¬ 9223372036854775807 < (S ++ t0 ++ ⟨#[45]⟩).size + t1.size := by rw [ByteArray.size_append, ByteArray.size_append]; show ¬ _ < _ + 1 + _; omega
            have HT : Hid ((S ++ t0 ++ ⟨#[45]⟩ ++ t1).data.toList = [91, 94] ++ (P ++ (nota x ++ 45 :: nota y))) := Lib.hid (by
              simp only [ByteArray.data_append, Array.toList_append, HSL.out, ht0, ht1]
              simp)
            have HP2 : Hid (M = (P ++ (nota x ++ 45 :: nota y)) ++ lstQ ((nl sb).drop p)) := Lib.hid (by
              have e := HP.out
              have hdp : ∀ f, p = k + 1 + f → r.drop f = (nl sb).drop p := fun f hf => by rw [HRR.out, List.drop_drop, hf]
              rw [HD.out, lstQ_run H2.out, ← HY.out, hdp _ (by have := HE.out; have := HPQ.out; omega)] at e
              rw [e]; simp)
            have HSZ : Hid ((S ++ t0 ++ ⟨#[45]⟩ ++ t1).size ≤ 1026) := Lib.hid (by
              have h1 : (S ++ t0 ++ ⟨#[45]⟩ ++ t1).size = ((S ++ t0 ++ ⟨#[45]⟩ ++ t1).data.toList).length := (sz_of _).symm
              have h2 := HLB.out
              rw [HP2.out, List.length_append] at h2
              rw [h1, HT.out, List.length_append]
              have : ([91, 94] : List UInt8).length ≤ 2 := by decide
              omega)
            have e3 : IntKind.i64.wrap ((p : Int) - 1) = (m : Int) := by rw [IntKind.wrap_i64]; omega
            have m0 : (0 : Int) ≤ (m : Int) := by omega
            have m1' : (m : Int) < (sb.size : Int) := by omega
            have h3' : (3 : Int) ≤ (q : Int) := by omega
            clear hm hj hlast hy ht0 ht1 h3
            go_wp2_with fail
            have KB := Lib.hid (show Below w1.heap.size w1 (wr.drewN nq).drew from below_drew (grows HB.out (below_draws _ nq)))
            go_region_with (first | (go_at_call 48; (with_reducible refine (C0.out _).mono ?_); rintro e w2 ⟨rfl, k2⟩; have KB := Lib.hid (grows KB.out k2); clear k2) | (go_at_call 48; (with_reducible refine (C1.out _).mono ?_); rintro e w2 ⟨rfl, k2⟩; have KB := Lib.hid (grows KB.out k2); clear k2))
            all_goals go_wp2
            all_goals go_roundw
            all_goals first | exact ⟨p, P ++ (nota x ++ 45 :: nota y), _, by go_num, rfl, by have := HPQ.out; omega, HSZ.out, HT, HP2, KB⟩ | (have := HPQ.out; have := HQ1.out; simp [intOf]; omega)
          · have HO : Hid (¬ 2 ≤ runF x r) := Lib.hid (by have := HE.out; omega)
            obtain ⟨t0, ht0⟩ : ∃ s : ByteArray, s = ⟨(nota x).toArray⟩ := ⟨_, rfl⟩
            have C0 := Lib.hid (fun w => rByte_any x256 w)
            rw [← ht0] at C0
            have z0 : t0.size ≤ 4 := by rw [ht0]; exact nota_size x
            have g1 : ¬ 9223372036854775807 < S.size + t0.size := by omega
            have HT : Hid ((S ++ t0).data.toList = [91, 94] ++ (P ++ nota x)) := Lib.hid (by
              simp only [ByteArray.data_append, Array.toList_append, HSL.out, ht0]
              simp)
            have HP2 : Hid (M = (P ++ nota x) ++ lstQ ((nl sb).drop (k + 1))) := Lib.hid (by
              have e := HP.out
              rw [HD.out, lstQ_one HO.out, HRR.out] at e
              rw [e]; simp)
            have HSZ : Hid ((S ++ t0).size ≤ 1026) := Lib.hid (by
              have h1 : (S ++ t0).size = ((S ++ t0).data.toList).length := (sz_of _).symm
              have h2 := HLB.out
              rw [HP2.out, List.length_append] at h2
              rw [h1, HT.out, List.length_append]
              have : ([91, 94] : List UInt8).length ≤ 2 := by decide
              omega)
            have h3' : ¬ (3 : Int) ≤ (q : Int) := by omega
            clear ht0 h3
            go_wp2_with (go_at_call 48; refine (C0.out _).mono ?_; rintro e w2 ⟨rfl, k2⟩; have K2 := Lib.hid k2; clear k2)
            go_roundw
            case rel => exact ⟨k + 1, P ++ nota x, _, by go_num, rfl, by have := H8.out; omega, HSZ.out, HT, HP2, Lib.hid (grows (grows HB.out (below_draws _ _)) K2.out)⟩
            case measure => have := H8.out; simp [intOf]; omega
    · have HK : Hid (k = sb.size) := Lib.hid (by omega)
      have hlt : ¬ ((k : Int) < (sb.size : Int)) := by omega
      have g1 : ¬ 9223372036854775807 < S.size + (⟨#[93]⟩ : ByteArray).size := by show ¬ _ < _ + 1; omega
      have g1' : ¬ 9223372036854775807 < S.size + 1 := by omega
      have HEND : Hid ((⟨R.toArray⟩ : ByteArray) = S ++ ⟨#[93]⟩) := Lib.hid (by
        have e1 : P = M := by
          have := HP.out
          rw [HK.out, List.drop_of_length_le (by rw [nl_len]; exact Nat.le_refl _), lstQ_nil, List.append_nil] at this
          exact this.symm
        apply ByteArray.ext
        rw [ByteArray.data_append]
        apply Array.ext'
        rw [Array.toList_append, HSL.out, e1, HR.out])
      clear hk h8
      go_wp2
      go_ret
      exact ⟨ret_str HEND.out.symm, HW.out.trans ((grows K1.out HB.out).mono HW.out.size)⟩
theorem rShow_any {a : List Nat} (ha : isSet a) (w : World) :
    Calls Tryd.prog 31 #[.agg (sv a)] w fun e w' => e = .returned (.string ⟨(shwQ a (notL a)).toArray⟩) ∧ Below w.heap.size w w' := by
  by_cases h1 : (byt a).length = 1
  · exact rShow_one ha h1 w
  · by_cases h2 : 128 < (byt a).length
    · exact rShow_big ha h1 h2 w
    · exact rShow_low ha h1 h2 w
end Go.Proofs.YtabcehifdomolaaDoor.Tq
namespace Go.Proofs.YtabcehifdomolaaDoor.Ep
open Go.RowKit Go.PlainAid Go.Proofs.YtabcehifdomolaaDoor.Vm Go.Proofs.YtabcehifdomolaaDoor.Vo Go.Proofs.YtabcehifdomolaaDoor.Bw Go.Proofs.YtabcehifdomolaaDoor.Na Go.Proofs.YtabcehifdomolaaDoor.Tm Go.Proofs.YtabcehifdomolaaDoor.Ta Go.Proofs.YtabcehifdomolaaDoor.Tb Go.Proofs.YtabcehifdomolaaDoor.Tf Go.Proofs.YtabcehifdomolaaDoor.Rm Go.Proofs.YtabcehifdomolaaDoor.Rs

/-- What stands from a place on. -/
def rst (s : ByteArray) (a : Nat) : List Nat := (nb s.data.toList).drop a
theorem nb_len (s : ByteArray) : (nb s.data.toList).length = s.size := by unfold nb; rw [List.length_map, Array.length_toList]; rfl
theorem rst_len (s : ByteArray) (a : Nat) : (rst s a).length = s.size - a := by unfold rst; rw [List.length_drop, nb_len]
theorem rst_cons {s : ByteArray} {a : Nat} (h : a < s.size) : ∃ c : Nat, c < 256 ∧ rst s a = c :: rst s (a + 1) ∧ bt s a = (c : Int) := by
  have h' : a < s.data.toList.length := by simpa using h
  refine ⟨s.data.toList[a].toNat, UInt8.toNat_lt _, ?_, ?_⟩
  · unfold rst nb
    rw [← List.map_drop, List.drop_eq_getElem_cons h', List.map_cons, List.map_drop]
  · unfold bt
    rw [dif_pos h]
    rfl
theorem rst_nil {s : ByteArray} {a : Nat} (h : s.size ≤ a) : rst s a = [] := List.drop_eq_nil_of_le (by rw [nb_len]; exact h)
/-- Is a byte among some. -/
def inQ (m : ByteArray) (c : Nat) : Bool := decide (0 ≤ Lib.indexByte m.data.toList c.toUInt8)
/-- Is the next byte among some. -/
def nxQ (m : ByteArray) : List Nat → Bool
  | [] => false
  | c :: _ => inQ m c
/-- A parser in memory. -/
def par (w : World) (g : Nat) (s : ByteArray) (a : Nat) (c q : Int) : Prop := Blk w g 43 #[.string s, .int .i64 (a : Int), .int .i64 c, .int .i64 q]
section
variable {w w' : World} {g : Nat} {s : ByteArray} {a : Nat} {c q : Int}
theorem par.c0 (h : par w g s a c q) : w.cell? ⟨g, 0, none⟩ = some (.string s) := h.cell 0
theorem par.c1 (h : par w g s a c q) : w.cell? ⟨g, 1, none⟩ = some (.int .i64 (a : Int)) := h.cell 1
theorem par.c2 (h : par w g s a c q) : w.cell? ⟨g, 2, none⟩ = some (.int .i64 c) := h.cell 2
theorem par.c3 (h : par w g s a c q) : w.cell? ⟨g, 3, none⟩ = some (.int .i64 q) := h.cell 3
theorem par.lt (h : par w g s a c q) : g < w.heap.size := Blk.lt h
theorem par.draws (h : par w g s a c q) (n : Nat) : par (w.drewN n) g s a c q := h
theorem par.drew1 (h : par w g s a c q) : par w.drew g s a c q := h
theorem par.below (h : par w g s a c q) (k : Below w.heap.size w w') : par w' g s a c q := Blk.below h k
theorem par.goes (h : par w g s a c q) (b : Nat) : par (w.setCell ⟨g, 1, none⟩ (.int .i64 (b : Int))) g s b c q := Blk.store h 1 _
end
theorem par.step {w : World} {g : Nat} {s : ByteArray} {a : Nat} {c q : Int} (h : par w g s a c q) : par (w.setCell ⟨g, 1, none⟩ (.int .i64 ((a : Int) + 1))) g s (a + 1) c q := by
  have := h.goes (a + 1)
  simpa using this
theorem Index_of (m : ByteArray) (c : Nat) (w : World) :
    Calls Tryd.prog 55 #[.string m, .int .u8 c] w fun e w' => e = .returned (.int .i64 (Lib.indexByte m.data.toList c.toUInt8)) ∧ w = w' := by
  have HI : Hid (∀ w, Calls Tryd.prog 70 #[.string m, .int .u8 c] w fun e w' => e = .returned (.int .i64 (Lib.indexByte m.data.toList c.toUInt8)) ∧ w = w') := Lib.hid fun w => (Any.stringslite_IndexByte Tg.lays m (c : Int) w).mono fun _ _ ⟨h, k⟩ => ⟨h, k.symm⟩
  generalize Lib.indexByte m.data.toList c.toUInt8 = z at *
  go_enter Tryd.func55, Tryd.ntmps55
  go_wp2_with (go_at_call 70; refine (HI.out _).mono ?_; rintro e w' ⟨rfl, rfl⟩)
  go_ret
  exact ⟨rfl, rfl⟩
set_option maxHeartbeats 1000000 in
set_option maxRecDepth 100000 in
theorem next_any {g : Nat} {s : ByteArray} {a : Nat} {c q : Int} (m : ByteArray) {w : World} (H : Hid (par w g s a c q)) :
    Calls Tryd.prog 50 #[.pointer (some ⟨g, 0, none⟩), .string m] w fun e w' => e = .returned (.bool (nxQ m (rst s a))) ∧ ∃ n, w' = w.drewN n := by
  have c0 := H.out.c0
  have c1 := H.out.c1
  have HR : Hid (s.size ≤ a → nxQ m (rst s a) = false) := Lib.hid (fun h => by rw [rst_nil h]; rfl)
  have HC : Hid (a < s.size → ∃ c : Nat, bt s a = (c : Int) ∧ nxQ m (rst s a) = inQ m c) := Lib.hid (fun h => by
    obtain ⟨c, _, e, hb⟩ := rst_cons h
    exact ⟨c, hb, by rw [e]; rfl⟩)
  generalize nxQ m (rst s a) = R at *
  have hb := get_bt s
  by_cases h : a < s.size
  · obtain ⟨b, hbt, hR⟩ := HC.out h
    have HI : Hid (∀ w, Calls Tryd.prog 55 #[.string m, .int .u8 b] w fun e w' => e = .returned (.int .i64 (Lib.indexByte m.data.toList b.toUInt8)) ∧ w = w') := Lib.hid (fun w => Index_of m b w)
    unfold inQ at hR
    generalize Lib.indexByte m.data.toList b.toUInt8 = z at *
    have h1 : (a : Int) < (s.size : Int) := by omega
    have h0 : (0 : Int) ≤ (a : Int) := by omega
    have HRR := Lib.hid hR
    clear hR
    go_enter Tryd.func50, Tryd.ntmps50
    go_wp2
    go_quiet (first | (go_at_call 55; first | exact Calls.quiet_of_same (HI.out _) | exact Calls.quiet_of_same ((HI.out _).mono fun _ _ ⟨h, k⟩ => ⟨h, k.symm⟩)))
    go_wp2
    go_ret
    exact ⟨by rw [HRR.out]; rfl, ⟨_, rfl⟩⟩
  · have h1 : ¬ (a : Int) < (s.size : Int) := by omega
    have hR := HR.out (by omega)
    subst hR
    go_enter Tryd.func50, Tryd.ntmps50
    go_wp2
    go_quiet (fail)
    go_wp2
    go_ret
    exact ⟨rfl, ⟨_, rfl⟩⟩
set_option maxHeartbeats 1000000 in
set_option maxRecDepth 100000 in
theorem take_any {g : Nat} {s : ByteArray} {a : Nat} {c q : Int} (hs : s.size ≤ 1000000) (ha : a ≤ s.size) (m : ByteArray) {w : World} (H : Hid (par w g s a c q)) :
    Calls Tryd.prog 34 #[.pointer (some ⟨g, 0, none⟩), .string m] w fun e w' => e = .returned (.bool (nxQ m (rst s a))) ∧ par w' g s (if nxQ m (rst s a) then a + 1 else a) c q ∧ Only (· = g) w w' := by
  have HN := Lib.hid (next_any m H)
  generalize nxQ m (rst s a) = R at *
  cases R with
  | false =>
    go_enter Tryd.func34, Tryd.ntmps34
    go_wp2_with (go_at_call 50; refine HN.out.mono ?_; rintro e w1 ⟨rfl, n, rfl⟩)
    go_ret
    exact ⟨rfl, by simpa using H.out.draws _, (Only.refl _ _).draws _⟩
  | true =>
    have c1 := (H.out.draws 0).c1
    have HC1 := Lib.hid c1
    have HF := Lib.hid (H.out.frozen 1)
    clear c1
    have h1 : (a : Int) ≤ 1000000 := by omega
    go_enter Tryd.func34, Tryd.ntmps34
    go_wp2_with (go_at_call 50; refine HN.out.mono ?_; rintro e w1 ⟨rfl, n, rfl⟩; have d1 : (w.drewN n).cell? ⟨g, 1, none⟩ = some (.int .i64 (a : Int)) := HC1.out; have f1 : (w.drewN n).frozen? ⟨g, 1, none⟩ = false := HF.out)
    go_ret
    refine ⟨rfl, ?_, ?_⟩
    · have := (H.out.draws n).goes (a + 1)
      simpa using this
    · exact ((Only.refl (· = g) w).draws n).store (p := ⟨g, 1, none⟩) (.inl rfl) _
set_option maxHeartbeats 1000000 in
set_option maxRecDepth 100000 in
theorem fail_any {g : Nat} {s : ByteArray} {a : Nat} {c q : Int} (e z : Int) {w : World} (H : Hid (par w g s a c q)) :
    Calls Tryd.prog 23 #[.pointer (some ⟨g, 0, none⟩), .int .i64 e, .int .i64 z] w fun r w' => r = .returned (.tuple #[]) ∧ par w' g s s.size (if c = 0 then e else c) (if c = 0 then z else q) ∧ Only (· = g) w w' := by
  have c0 := H.out.c0
  have c1 := H.out.c1
  have c2 := H.out.c2
  have c3 := H.out.c3
  have f1 := H.out.frozen 1
  have f2 := H.out.frozen 2
  have f3 := H.out.frozen 3
  by_cases h : c = 0
  · subst h
    go_enter Tryd.func23, Tryd.ntmps23
    go_wp2
    go_end0
    refine ⟨rfl, ?_, ?_⟩
    · have := ((Blk.store H.out 2 (.int .i64 e)).store 3 (.int .i64 z)).store 1 (.int .i64 (s.size : Int))
      simpa [par] using this
    · exact (((Only.refl (· = g) w).store (p := ⟨g, 2, none⟩) (.inl rfl) _).store (p := ⟨g, 3, none⟩) (.inl rfl) _).store (p := ⟨g, 1, none⟩) (.inl rfl) _
  · have h1 : (c == 0) = false := by simp [h]
    go_enter Tryd.func23, Tryd.ntmps23
    go_wp2
    go_end0
    refine ⟨rfl, ?_, ?_⟩
    · exact H.out.goes s.size
    · exact (Only.refl (· = g) w).store (p := ⟨g, 1, none⟩) (.inl rfl) _
end Go.Proofs.YtabcehifdomolaaDoor.Ep
namespace Go.Proofs.YtabcehifdomolaaDoor.Em
open Go.RowKit Go.PlainAid Go.Proofs.YtabcehifdomolaaDoor.Vm Go.Proofs.YtabcehifdomolaaDoor.Vo Go.Proofs.YtabcehifdomolaaDoor.Bw Go.Proofs.YtabcehifdomolaaDoor.Na Go.Proofs.YtabcehifdomolaaDoor.Tm Go.Proofs.YtabcehifdomolaaDoor.Ts Go.Proofs.YtabcehifdomolaaDoor.Ta Go.Proofs.YtabcehifdomolaaDoor.Tb Go.Proofs.YtabcehifdomolaaDoor.Tf Go.Proofs.YtabcehifdomolaaDoor.Tg Go.Proofs.YtabcehifdomolaaDoor.Rm Go.Proofs.YtabcehifdomolaaDoor.Rs Go.Proofs.YtabcehifdomolaaDoor.Ep

theorem frm_one {c : Nat} (h : c < 256) : frm c (c + 1) = one c := set_ext (frm_set _ _) (one_set _) fun d hd => by
  rw [has_frm h hd, has_one h hd, Bool.eq_iff_iff]
  simp
  omega
def hexI (c : Nat) : Int := match hexP c with | some x => (x : Int) | none => -1
theorem hex_ix : ∀ c < 256, Lib.indexByte hexB.data.toList (Nat.toUInt8 c) = hexI c := by decide +kernel
theorem hex_lt {c x : Nat} (h : hexP c = some x) : x < 16 := by
  unfold hexP at h
  split at h
  · injection h; omega
  · split at h
    · injection h; omega
    · cases h
theorem results_cell2 {P : Program} {fn : Func} {p u : Tmp} {ty : TypeId} (h : fn.results = #[.cell p ty, .tmp u]) (tmps : Array Value) (w : World) (g : Nat) (t : TypeId) (cs : Array Value) (d : TypeDesc) (x : Value)
    (hp : tmps.getD p undef = .pointer (some ⟨g, 0, none⟩)) (hx : tmps.getD u undef = x) (hg : Blk w g t cs) (hu : P.underlying ty = some d) (hd : (match d with | .struct _ | .array _ _ => true | _ => false) = true) (hi : (P.info? ty).map (·.size) = some cs.size) :
    (results fn tmps).run P w = .ok (.tuple #[.agg cs, x]) w := by
  have hp' : tmps[p]?.getD undef = .pointer (some ⟨g, 0, none⟩) := by simpa using hp
  have hx' : tmps[u]?.getD undef = x := by simpa using hx
  simp only [results, h]
  simp [hp', hx', asAddr, run_loadVar_row w g t ty cs (0, 0) d hg hu hd hi]
/-- What numbered answers of what stands behind an x. -/
def numbQ : List Nat → List Nat × Nat
  | h1 :: h2 :: _ => match hexP h1, hexP h2 with
    | some x, some y => (one (16 * x + y), 3)
    | _, _ => (zero, 0)
  | _ => (zero, 0)
def setI (x : List Nat × Nat) : Value := .tuple #[.agg (sv x.1), .int .i64 (x.2 : Int)]
theorem zero4 (w : World) : Blk (w.alloc (.cells #[.int .u64 0, .int .u64 0, .int .u64 0, .int .u64 0] 36)) w.heap.size 36 (sv zero) := Blk.fresh w _ _
theorem set4 {a : List Nat} (h : isSet a) {z : Array Value} (hz : z = sv a) : z.size = 4 ∧ z.all (·.oneCell') = true := by rw [hz]; exact ⟨sv4 h, sv_one a⟩
theorem rst_next {s : ByteArray} {a : Nat} {c : Nat} {r : List Nat} (h : rst s a = c :: r) : a < s.size ∧ c < 256 ∧ bt s a = (c : Int) ∧ rst s (a + 1) = r := by
  have hl := rst_len s a
  rw [h, List.length_cons] at hl
  have ha : a < s.size := by omega
  obtain ⟨c', h1, h2, h3⟩ := rst_cons ha
  rw [h] at h2
  injection h2 with e1 e2
  subst e1
  exact ⟨ha, h1, h3, e2.symm⟩
set_option maxHeartbeats 1000000 in
set_option maxRecDepth 100000 in
theorem numbered_any (s : ByteArray) (hs : s.size ≤ 1000000) {c : Nat} {r : List Nat} (hr : rst s 0 = c :: r) (w : World) :
    Calls Tryd.prog 96 #[.string s] w fun e w' => e = .returned (setI (numbQ r)) ∧ Below w.heap.size w w' := by
  have hl := rst_len s 0
  rw [hr, List.length_cons] at hl
  have hb := get_bt s
  have HSZ : Hid (∀ n, s.size = n → True) := Lib.hid (fun _ _ => trivial)
  match r, hr, hl with
  | [], hr, hl =>
    have h3 : (s.size : Int) < 3 := by simp at hl; omega
    clear hl hb
    go_enter Tryd.func96, Tryd.ntmps96
    go_wp2
    exact bodyPost_ret (results_cell2 rfl _ _ w.heap.size 36 (sv zero) _ _ rfl rfl (zero4 w) Tryd.underlying36 rfl (fit (sv4 zero_set))) rfl ⟨rfl, below_alloc _ _⟩
  | _ :: [], hr, hl =>
    have h3 : (s.size : Int) < 3 := by simp at hl; omega
    clear hl hb
    go_enter Tryd.func96, Tryd.ntmps96
    go_wp2
    exact bodyPost_ret (results_cell2 rfl _ _ w.heap.size 36 (sv zero) _ _ rfl rfl (zero4 w) Tryd.underlying36 rfl (fit (sv4 zero_set))) rfl ⟨rfl, below_alloc _ _⟩
  | h1 :: h2 :: r, hr, hl =>
    simp only [List.length_cons] at hl
    obtain ⟨_, _, _, hr1⟩ := rst_next hr
    obtain ⟨_, l1, b1, hr2⟩ := rst_next hr1
    obtain ⟨_, l2, b2, _⟩ := rst_next hr2
    have h3 : ¬ (s.size : Int) < 3 := by omega
    have i1 : (1 : Int) < (s.size : Int) := by omega
    have i2 : (2 : Int) < (s.size : Int) := by omega
    have HI1 : Hid (∀ w, Calls Tryd.prog 55 #[.string hexB, .int .u8 h1] w fun e w' => e = .returned (.int .i64 (hexI h1)) ∧ w' = w) := Lib.hid (fun w => (Index_of hexB h1 w).mono fun e w' ⟨h, k⟩ => ⟨by rw [h, hex_ix h1 l1], k.symm⟩)
    have HI2 : Hid (∀ w, Calls Tryd.prog 55 #[.string hexB, .int .u8 h2] w fun e w' => e = .returned (.int .i64 (hexI h2)) ∧ w' = w) := Lib.hid (fun w => (Index_of hexB h2 w).mono fun e w' ⟨h, k⟩ => ⟨by rw [h, hex_ix h2 l2], k.symm⟩)
    have HQ : Hid (numbQ (h1 :: h2 :: r) = match hexP h1, hexP h2 with | some x, some y => (one (16 * x + y), 3) | _, _ => (zero, 0)) := Lib.hid rfl
    generalize numbQ (h1 :: h2 :: r) = Q at *
    obtain ⟨w1, hw1⟩ : ∃ w1, w1 = w.alloc (.cells #[.int .u64 0, .int .u64 0, .int .u64 0, .int .u64 0] 36) := ⟨_, rfl⟩
    have HR1 : Hid (Blk w1 w.heap.size 36 (sv zero)) := Lib.hid (by rw [hw1]; exact zero4 w)
    have HB1 : Hid (Below w.heap.size w w1) := Lib.hid (by rw [hw1]; exact below_alloc _ _)
    have e1 : bt s 1 = (h1 : Int) := b1
    have e2 : bt s 2 = (h2 : Int) := b2
    clear b1 b2 hl hr1 hr2
    unfold hexI at HI1 HI2
    cases hx : hexP h1 with
    | none =>
      rw [hx] at HI1 HQ
      obtain ⟨z2, hz2⟩ : ∃ z2, z2 = (match hexP h2 with | some x => (x : Int) | none => -1) := ⟨_, rfl⟩
      rw [← hz2] at HI2
      clear hz2
      go_enter Tryd.func96, Tryd.ntmps96
      go_wp2
      rw [← hw1]
      clear hw1
      go_quiet (first | (go_at_call 55; first | exact Calls.quiet_of_same (HI1.out _) | exact Calls.quiet_of_same (HI2.out _)))
      obtain ⟨w2, hw2⟩ : ∃ w2, w2 = w1.drewN nq := ⟨_, rfl⟩
      have HR2 : Hid (Blk w2 w.heap.size 36 (sv zero)) := Lib.hid (by rw [hw2]; exact HR1.out.draws nq)
      have HB2 : Hid (Below w.heap.size w w2) := Lib.hid (by rw [hw2]; exact grows HB1.out (below_draws _ _))
      try rw [← hw2]
      clear hw2
      go_wp2_with (refine wpList_store_row rfl 36 _ _ rfl w.heap.size (sv zero) rfl rfl _ _ HR2.out (fit (sv4 zero_set)) rfl (sv_one _) ?_)
      exact bodyPost_ret (results_cell2 rfl _ _ w.heap.size 36 (sv zero) _ _ rfl rfl (setRow_heap _ _ _ _ _ _ HR2.out) Tryd.underlying36 rfl (fit (sv4 zero_set))) rfl ⟨by rw [HQ.out]; rfl, Below_setRow HB2.out (Nat.le_refl _) _⟩
    | some x =>
      have hx16 := hex_lt hx
      rw [hx] at HI1 HQ
      cases hy : hexP h2 with
      | none =>
        rw [hy] at HI2 HQ
        have hx0 : ¬ (x : Int) < 0 := by omega
        go_enter Tryd.func96, Tryd.ntmps96
        go_wp2
        rw [← hw1]
        clear hw1
        go_quiet (first | (go_at_call 55; first | exact Calls.quiet_of_same (HI1.out _) | exact Calls.quiet_of_same (HI2.out _)))
        obtain ⟨w2, hw2⟩ : ∃ w2, w2 = w1.drewN nq := ⟨_, rfl⟩
        have HR2 : Hid (Blk w2 w.heap.size 36 (sv zero)) := Lib.hid (by rw [hw2]; exact HR1.out.draws nq)
        have HB2 : Hid (Below w.heap.size w w2) := Lib.hid (by rw [hw2]; exact grows HB1.out (below_draws _ _))
        try rw [← hw2]
        clear hw2
        go_wp2_with (refine wpList_store_row rfl 36 _ _ rfl w.heap.size (sv zero) rfl rfl _ _ HR2.out (fit (sv4 zero_set)) rfl (sv_one _) ?_)
        exact bodyPost_ret (results_cell2 rfl _ _ w.heap.size 36 (sv zero) _ _ rfl rfl (setRow_heap _ _ _ _ _ _ HR2.out) Tryd.underlying36 rfl (fit (sv4 zero_set))) rfl ⟨by rw [HQ.out]; rfl, Below_setRow HB2.out (Nat.le_refl _) _⟩
      | some y =>
        have hy16 := hex_lt hy
        rw [hy] at HI2 HQ
        have hx0 : ¬ (x : Int) < 0 := by omega
        have hy0 : ¬ (y : Int) < 0 := by omega
        obtain ⟨n, hn⟩ : ∃ n, n = 16 * x + y := ⟨_, rfl⟩
        have hn2 : n < 256 := by omega
        have hcv : IntKind.u8.wrap (16 * (x : Int) + (y : Int)) = (n : Int) := by
          rw [show 16 * (x : Int) + (y : Int) = (n : Int) by omega]
          unfold IntKind.wrap
          simp [IntKind.signed, IntKind.bits]
          omega
        have HRA : Hid (∀ w, Calls Tryd.prog 78 #[.int .u8 n, .int .u8 n] w fun e w' => e = .returned (.agg (sv (one n))) ∧ Below w.heap.size w w') := Lib.hid (fun w => by have := Range_any hn2 hn2 w; rw [frm_one hn2] at this; exact this)
        obtain ⟨z, hz⟩ : ∃ z, z = sv (one n) := ⟨_, rfl⟩
        obtain ⟨hz4, hz1⟩ := set4 (one_set n) hz
        have HZ4 := Lib.hid hz4
        have HZ1 := Lib.hid hz1
        have HQ2 : Hid (setI Q = .tuple #[.agg z, .int .i64 3]) := Lib.hid (by rw [HQ.out, hz, hn]; rfl)
        rw [← hz] at HRA
        clear hz hz4 hz1 hn
        go_enter Tryd.func96, Tryd.ntmps96
        go_wp2
        rw [← hw1]
        clear hw1
        go_quiet (first | (go_at_call 55; first | exact Calls.quiet_of_same (HI1.out _) | exact Calls.quiet_of_same (HI2.out _)))
        obtain ⟨w2, hw2⟩ : ∃ w2, w2 = w1.drewN nq := ⟨_, rfl⟩
        have HR2 : Hid (Blk w2 w.heap.size 36 (sv zero)) := Lib.hid (by rw [hw2]; exact HR1.out.draws nq)
        have HB2 : Hid (Below w.heap.size w w2) := Lib.hid (by rw [hw2]; exact grows HB1.out (below_draws _ _))
        try rw [← hw2]
        clear hw2
        simp only [Exit.then]
        go_wp2_with (first | (go_at_call 78; refine (HRA.out _).mono ?_; rintro e w3 ⟨rfl, k3⟩; have HR3 := Lib.hid (Blk.below HR2.out k3); have HB3 := Lib.hid (grows HB2.out k3); clear k3) | (refine wpList_store_row rfl 36 _ _ rfl w.heap.size z rfl rfl _ _ HR3.out (fit HZ4.out) (Eq.trans (sv4 zero_set) HZ4.out.symm) HZ1.out ?_))
        exact bodyPost_ret (results_cell2 rfl _ _ w.heap.size 36 z _ _ rfl rfl (setRow_heap _ _ _ _ _ _ HR3.out) Tryd.underlying36 rfl (fit HZ4.out)) rfl ⟨by rw [HQ2.out]; rfl, Below_setRow HB3.out (Nat.le_refl _) _⟩
/-- What meaning answers. -/
def meanQ : List Nat → List Nat × Nat
  | [] => (zero, 0)
  | c :: r => if c = 110 then (one 10, 1) else if c = 116 then (one 9, 1) else if c = 115 then (one 32, 1) else if c = 100 then (digS, 1) else if c = 119 then (worS, 1) else if c = 120 then numbQ r else if c ∈ maskL then (one c, 1) else (zero, 0)
theorem dig_of : ofS [48, 49, 50, 51, 52, 53, 54, 55, 56, 57] = digS := by decide +kernel
theorem wor_of : orL (orL (frm 65 91) (frm 97 123)) (ofS [48, 49, 50, 51, 52, 53, 54, 55, 56, 57, 95]) = worS := by decide +kernel
end Go.Proofs.YtabcehifdomolaaDoor.Em
