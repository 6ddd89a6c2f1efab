/-
  collimatorlaw18.DfaParts: a text in two parts leads to where it leads at once, byte by byte, too.
  Conditions: none. The walk of the call (made by tools/gendfa18.py).
-/
import Derived.Test.YtfipagndpoahlaaUq
import Derived.Test.YtfipagndpoahlaaCc
namespace Go.Proofs.Ytfipagndpoahlaa.Uxparts
open Go.RowKit Go.PlainAid Go.Proofs.Ytfipagndpoahlaa.Bw Go.Proofs.Ytfipagndpoahlaa.Na Go.Proofs.Ytfipagndpoahlaa.Ko Go.Proofs.Ytfipagndpoahlaa.Ua Go.Proofs.Ytfipagndpoahlaa.Ub Go.Proofs.Ytfipagndpoahlaa.Uc Go.Proofs.Ytfipagndpoahlaa.Ud Go.Proofs.Ytfipagndpoahlaa.Ue Go.Proofs.Ytfipagndpoahlaa.Uf Go.Proofs.Ytfipagndpoahlaa.Ug Go.Proofs.Ytfipagndpoahlaa.Uh Go.Proofs.Ytfipagndpoahlaa.Ui Go.Proofs.Ytfipagndpoahlaa.Uj Go.Proofs.Ytfipagndpoahlaa.Uk Go.Proofs.Ytfipagndpoahlaa.Ul Go.Proofs.Ytfipagndpoahlaa.Um Go.Proofs.Ytfipagndpoahlaa.Un Go.Proofs.Ytfipagndpoahlaa.Uo Go.Proofs.Ytfipagndpoahlaa.Up Go.Proofs.Ytfipagndpoahlaa.Uq Go.Proofs.Ytfipagndpoahlaa.Cc

theorem nbs_cut (s : ByteArray) (q : Nat) : nbs (s.extract 0 q) = (nbs s).take q := by
  unfold nbs
  rw [ByteArray.data_extract, Array.toList_extract, ← List.map_take]
  simp only [List.extract_eq_take_drop, Nat.sub_zero, List.drop_zero]
set_option maxHeartbeats 4000000 in
set_option maxRecDepth 100000 in
theorem walk (V : Array Value) (D : Df) (s : ByteArray) (z : Int) (W : World) (w0 : dfa W V D) (_w1 : s.size ≤ maxLen) (w2 : (Lit.int .i64 z).wf = true) :
    Calls Try.prog 5 #[.agg V, .string s, .int .i64 z] W fun e w' => e = .returned (.bool true) ∧ Below W.heap.size W w' := by
  have hz : -9223372036854775808 ≤ z ∧ z ≤ 9223372036854775807 := by simpa [Lit.wf, IntKind.min, IntKind.max, IntKind.signed, IntKind.bits] using w2
  have HKN := Lib.hid (fun u => known_any u)
  obtain ⟨A1, c1, A2, c2, wv⟩ := w0
  obtain ⟨wb, hwb⟩ : ∃ wb, wb = W.alloc (.cells V 26) := ⟨_, rfl⟩
  have BW : Hid (Below W.heap.size W wb) := Lib.hid (by rw [hwb]; exact below_alloc _ _)
  have HBX : Hid (Blk wb W.heap.size 26 V) := Lib.hid (by rw [hwb]; exact Blk.fresh _ _ _)
  have HV := Lib.hid (wv.below BW.out)
  have HW := Lib.hid HV.out.of
  have HLI : Hid (∀ u, Below wb.heap.size wb u → Calls Try.prog 7 #[.agg V] u fun e w' => someB u e w') := Lib.hid (fun u k => Light_any (Lib.hid (HW.out.below k)))
  obtain ⟨N, hsz, hld⟩ := load_dfa (g := W.heap.size) wv.size
  have KB := Lib.hid (Below.refl wb.heap.size wb)
  obtain ⟨K, hKD⟩ : ∃ K, K = D.nx.length := ⟨_, rfl⟩
  obtain ⟨M, hMD⟩ : ∃ M, M = D.ru.length := ⟨_, rfl⟩
  have HBK := HBX
  have HBX : Hid (∀ u, Below wb.heap.size wb u → Blk u W.heap.size 26 V ∧ u.cell? ⟨W.heap.size, 256, none⟩ = some (.slice A1 K c1) ∧ u.cell? ⟨W.heap.size, 257, none⟩ = some (.slice A2 M c2)) := Lib.hid (fun u k => ⟨HBK.out.below k, ((HBK.out.below k).cell 256).trans (by rw [hKD]; exact HV.out.vn), ((HBK.out.below k).cell 257).trans (by rw [hMD]; exact HV.out.vr)⟩)
  have zb := HBX.out wb KB.out
  by_cases h9 : 300 < s.size
  · have h9' : (300 : Int) < (s.size : Int) := by omega
    clear wv _w1 w2 hz HW HV HBK hKD hMD
    go_enter Try.func5, Try.ntmps5
    go_upto_region 1 with fail
    rw [← hwb]
    clear hwb
    go_upto_region 2 with (go_at_call 7; refine (HLI.out _ KB.out).mono ?_; rintro e u ⟨bl, rfl, k⟩; have KB := Lib.hid (grows KB.out k); clear k zb; have zb := HBX.out _ KB.out; cases bl)
    all_goals
      go_wp2_with (go_at_call 8; refine (HKN.out _).mono ?_; rintro e u ⟨rfl, k⟩; have KB := Lib.hid (grows KB.out k); clear k zb; have zb := HBX.out _ KB.out)
      go_ret
      exact ⟨rfl, grows BW.out KB.out⟩
  · have h9' : ¬ (300 : Int) < (s.size : Int) := by omega
    have hs9 : s.size ≤ 300 := by omega
    by_cases ho : okD D
    · have HO := Lib.hid ho
      have HR : Hid (∀ u, Below wb.heap.size wb u → Calls Try.prog 9 #[.agg V] u fun e w' => e = .returned (.bool true) ∧ Below u.heap.size u w') := Lib.hid (fun u k => (Right_any (Lib.hid (HW.out.below k))).mono fun e w' h => h.yes HO.out)
      obtain ⟨q, hq⟩ : ∃ q, q = cnt z (s.size + 1) := ⟨_, rfl⟩
      have hqs : q ≤ s.size := by have := cnt_lt z (m := s.size + 1) (by omega); omega
      have HCO : Hid (∀ u, Calls Try.prog 22 #[.int .i64 z, .int .i64 ((s.size : Int) + 1)] u fun e w' => e = .returned (.int .i64 (q : Int)) ∧ u = w') := Lib.hid (fun u => by
        have := Count_any z (s.size + 1) hz (by omega) (by omega) u
        rw [← hq] at this
        exact this)
      have hq0 : (0 : Int) ≤ (q : Int) := by omega
      have hq1 : (q : Int) ≤ (s.size : Int) := by omega
      have HRQ : Hid (∀ u, Below wb.heap.size wb u → Calls Try.prog 13 #[.agg V, .string (s.extract 0 q)] u fun e w' => e = .returned (.int .i64 (gos D 0 ((nbs s).take q) : Nat)) ∧ Below u.heap.size u w') := Lib.hid (fun u k => by
        have := Run_any (s := s.extract 0 q) (by rw [ByteArray.size_extract]; omega) (Lib.hid (HW.out.below k))
        rw [runI_yes HO.out, nbs_cut] at this
        exact this)
      have HRS : Hid (∀ u, Below wb.heap.size wb u → Calls Try.prog 13 #[.agg V, .string s] u fun e w' => e = .returned (.int .i64 (gos D 0 (nbs s) : Nat)) ∧ Below u.heap.size u w') := Lib.hid (fun u k => by
        have := Run_any (s := s) (by omega) (Lib.hid (HW.out.below k))
        rw [runI_yes HO.out] at this
        exact this)
      have HAF : Hid (∀ u, Below wb.heap.size wb u → Calls Try.prog 15 #[.agg V, .string s] u fun e w' => e = .returned (.int .i64 (at' D.ru (gos D 0 (nbs s)))) ∧ Below u.heap.size u w') := Lib.hid (fun u k => by
        have := After_any (s := s) (by omega) (Lib.hid (HW.out.below k))
        rw [aftI_yes HO.out] at this
        exact this)
      have HST : Hid (∀ (u : World) (p c : Nat), Below wb.heap.size wb u → p < D.nx.length → c < 256 → Calls Try.prog 11 #[.agg V, .int .i64 (p : Int), .int .u8 (c : Int)] u fun e w' => e = .returned (.int .i64 (tq D p c : Nat)) ∧ Below u.heap.size u w') := Lib.hid (fun u p c k hp hc => by
        have := Step_any (c := c) (p : Int) hc (Lib.hid (HW.out.below k))
        rw [stpI_yes HO.out hp] at this
        exact this)
      have HKD := Lib.hid hKD
      have HMD := Lib.hid hMD
      have HMB : Hid (M ≤ 9223372036854775807) := Lib.hid (by rw [hMD]; exact wv.m)
      have HRB : Hid (∀ u, Below wb.heap.size wb u → row u A2 D.ru.length (at' D.ru)) := Lib.hid (fun u k => HV.out.r.below k)
      clear wv _w1 w2 hz HW HV HBK hKD hMD hq ho h9
      go_enter Try.func5, Try.ntmps5
      go_upto_region 1 with fail
      rw [← hwb]
      clear hwb
      go_upto_region 2 with (first | (go_at_call 7; refine (HLI.out _ KB.out).mono ?_; rintro e u ⟨bl, rfl, k⟩; have KB := Lib.hid (grows KB.out k); clear k zb; have zb := HBX.out _ KB.out; cases bl) | (go_at_call 9; (with_reducible refine (HR.out _ KB.out).mono ?_); rintro e u ⟨rfl, k⟩; have KB := Lib.hid (grows KB.out k); clear k zb; have zb := HBX.out _ KB.out) | (go_at_call 22; refine (HCO.out _).mono ?_; rintro e u ⟨rfl, rfl⟩))
      · go_wp2_with (go_at_call 8; refine (HKN.out _).mono ?_; rintro e u ⟨rfl, k⟩; have KB := Lib.hid (grows KB.out k); clear k zb; have zb := HBX.out _ KB.out)
        go_ret
        exact ⟨rfl, grows BW.out KB.out⟩
      · have KB := Lib.hid (below_drew KB.out)
        go_region_held3 (fun w' => Blk w' W.heap.size 26 V ∧ w'.cell? ⟨W.heap.size, 256, none⟩ = some (.slice A1 K c1) ∧ w'.cell? ⟨W.heap.size, 257, none⟩ = some (.slice A2 M c2))
          (first | exact HBX.out _ KB.out | assumption)
          (((go_at_call 13; (with_reducible refine (HRQ.out _ KB.out).mono ?_); rintro e u ⟨rfl, k⟩; have KB := Lib.hid (grows KB.out k); clear k zb; have zb := HBX.out _ KB.out)))
        go_wp2
        go_loopw [9, 8] (fun s9 s8 wr => ∃ i p : Nat, s9 = .int .i64 (i : Int) ∧ s8 = .int .i64 (p : Int) ∧ i ≤ s.size ∧ Hid (p = gos D 0 ((nbs s).take i)) ∧ Hid (Below wb.heap.size wb wr)) (fun s9 _ _ => s.size - (intOf s9).toNat)
        case atStart => exact ⟨q, _, rfl, rfl, hqs, Lib.hid rfl, KB⟩
        case round =>
          clear KB zb
          obtain ⟨i, p, rfl, rfl, hi, HP, KB⟩ := hrel
          have hpD : p < D.nx.length := by rw [HP.out]; exact HO.out.gos_lt _ HO.out.k1 (fun d hd => nbs_lt d (List.mem_of_mem_take hd))
          have KB := Lib.hid (below_drew KB.out)
          by_cases hin : i < s.size
          · have hin' : (i : Int) < (s.size : Int) := by omega
            have hi0 : (0 : Int) ≤ (i : Int) := by omega
            have HIN := Lib.hid hin
            obtain ⟨c, hcc⟩ : ∃ c, c = (s[i]'hin).toNat := ⟨_, rfl⟩
            have hgb : ((s[i]'hin).toNat : Int) = (c : Int) := by rw [hcc]
            have hc9 : c < 256 := by rw [hcc]; exact UInt8.toNat_lt _
            have HSC : Hid (∀ u, Below wb.heap.size wb u → Calls Try.prog 11 #[.agg V, .int .i64 (p : Int), .int .u8 (c : Int)] u fun e w' => e = .returned (.int .i64 (tq D p c : Nat)) ∧ Below u.heap.size u w') := Lib.hid (fun u k => HST.out u p c k hpD hc9)
            have HNX : Hid (tq D p c = gos D 0 ((nbs s).take (i + 1))) := Lib.hid (by rw [nbs_take hin, gos_snoc, ← HP.out, hcc])
            have zb := HBX.out _ KB.out
            clear hcc hpD hc9
            go_wp2
            go_region_held3 (fun w' => Blk w' W.heap.size 26 V ∧ w'.cell? ⟨W.heap.size, 256, none⟩ = some (.slice A1 K c1) ∧ w'.cell? ⟨W.heap.size, 257, none⟩ = some (.slice A2 M c2))
              (first | exact HBX.out _ KB.out | assumption)
              (((go_at_call 11; (with_reducible refine (HSC.out _ KB.out).mono ?_); rintro e u ⟨rfl, k⟩; have KB := Lib.hid (grows KB.out k); clear k zb; have zb := HBX.out _ KB.out)))
            go_wp2
            have hin := HIN.out
            go_roundw
            case rel => exact ⟨i + 1, tq D p c, by go_num, rfl, by omega, HNX, KB⟩
            case measure => simp [intOf]; omega
          · have hin' : ¬ (i : Int) < (s.size : Int) := by omega
            have HG : Hid (gos D 0 (nbs s) = p) := Lib.hid (by rw [HP.out, List.take_of_length_le (by rw [nbs_len]; omega)])
            rw [HG.out] at HRS HAF
            obtain ⟨b2, o2, rfl, hb2, hce⟩ := HRB.out _ KB.out p (by rw [HO.out.r]; exact hpD)
            obtain ⟨r, hr⟩ : ∃ r, r = at' D.ru p := ⟨_, rfl⟩
            rw [← hr] at hce HAF
            have hpK : p < K := by rw [HKD.out]; exact hpD
            have hpM : p < M := by rw [HMD.out, HO.out.r]; exact hpD
            have hp0 : (0 : Int) ≤ (p : Int) := by omega
            have hp1 : (p : Int) < (K : Int) := by omega
            have hp2 : (p : Int) < (M : Int) := by omega
            have hmb := HMB.out
            have K9 := KB
            have HBX : Hid (∀ u, Below wr.drew.heap.size wr.drew u → Blk u W.heap.size 26 V ∧ u.cell? ⟨W.heap.size, 256, none⟩ = some (.slice A1 K c1) ∧ u.cell? ⟨W.heap.size, 257, none⟩ = some (.slice (some ⟨b2, o2, none⟩) M c2) ∧ u.cell? ⟨b2, o2 + p, none⟩ = some (.int .i64 r)) := Lib.hid (fun u k => by
              obtain ⟨x1, x2, x3⟩ := HBX.out u (grows K9.out k)
              exact ⟨x1, x2, x3, (k.cell (p := ⟨b2, o2 + p, none⟩) hb2).trans hce⟩)
            have KC := Lib.hid (Below.refl wr.drew.heap.size wr.drew)
            have zb := HBX.out _ KC.out
            clear hpD hr hce hb2 hin hi
            go_wp2
            go_region_held3 (fun w' => Blk w' W.heap.size 26 V ∧ w'.cell? ⟨W.heap.size, 256, none⟩ = some (.slice A1 K c1) ∧ w'.cell? ⟨W.heap.size, 257, none⟩ = some (.slice (some ⟨b2, o2, none⟩) M c2) ∧ w'.cell? ⟨b2, o2 + p, none⟩ = some (.int .i64 r))
              (first | exact HBX.out _ KC.out | assumption)
              (first | (go_at_call 13; (with_reducible refine (HRS.out _ KB.out).mono ?_); rintro e u ⟨rfl, k⟩; have KB := Lib.hid (grows KB.out k); have KC := Lib.hid (grows KC.out k); clear k zb; have zb := HBX.out _ KC.out) | (go_at_call 15; (with_reducible refine (HAF.out _ KB.out).mono ?_); rintro e u ⟨rfl, k⟩; have KB := Lib.hid (grows KB.out k); have KC := Lib.hid (grows KC.out k); clear k zb; have zb := HBX.out _ KC.out) | (go_at_call 8; refine (HKN.out _).mono ?_; rintro e u ⟨rfl, k⟩; have KB := Lib.hid (grows KB.out k); have KC := Lib.hid (grows KC.out k); clear k zb; have zb := HBX.out _ KC.out))
            go_wp2
            go_ret
            exact ⟨rfl, grows BW.out KB.out⟩
    · have HO := Lib.hid ho
      have HR : Hid (∀ u, Below wb.heap.size wb u → Calls Try.prog 9 #[.agg V] u fun e w' => e = .returned (.bool false) ∧ Below u.heap.size u w') := Lib.hid (fun u k => (Right_any (Lib.hid (HW.out.below k))).mono fun e w' h => h.no HO.out)
      clear wv _w1 w2 hz HW HV HBK hKD hMD ho h9
      go_enter Try.func5, Try.ntmps5
      go_upto_region 1 with fail
      rw [← hwb]
      clear hwb
      go_upto_region 2 with (first | (go_at_call 7; refine (HLI.out _ KB.out).mono ?_; rintro e u ⟨bl, rfl, k⟩; have KB := Lib.hid (grows KB.out k); clear k zb; have zb := HBX.out _ KB.out; cases bl) | (go_at_call 9; (with_reducible refine (HR.out _ KB.out).mono ?_); rintro e u ⟨rfl, k⟩; have KB := Lib.hid (grows KB.out k); clear k zb; have zb := HBX.out _ KB.out))
      all_goals
        go_wp2_with (go_at_call 8; refine (HKN.out _).mono ?_; rintro e u ⟨rfl, k⟩; have KB := Lib.hid (grows KB.out k); clear k zb; have zb := HBX.out _ KB.out)
        go_ret
        exact ⟨rfl, grows BW.out KB.out⟩
end Go.Proofs.Ytfipagndpoahlaa.Uxparts
