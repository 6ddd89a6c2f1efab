/-
  collimatorlaw18.DfaDead: behind a text that leads to a state that is not live no further bytes lead to a rule.
  Conditions: none. The walk of the call (made by tools/gendfa18.py).
-/
import Derived.Test.YtfipagndpoahlaaUq
namespace Go.Proofs.Ytfipagndpoahlaa.Uxdead
open Go.RowKit Go.PlainAid Go.Proofs.Ytfipagndpoahlaa.Bw Go.Proofs.Ytfipagndpoahlaa.Na Go.Proofs.Ytfipagndpoahlaa.Ko Go.Proofs.Ytfipagndpoahlaa.Ua Go.Proofs.Ytfipagndpoahlaa.Ub Go.Proofs.Ytfipagndpoahlaa.Uc Go.Proofs.Ytfipagndpoahlaa.Ud Go.Proofs.Ytfipagndpoahlaa.Ue Go.Proofs.Ytfipagndpoahlaa.Uf Go.Proofs.Ytfipagndpoahlaa.Ug Go.Proofs.Ytfipagndpoahlaa.Uh Go.Proofs.Ytfipagndpoahlaa.Ui Go.Proofs.Ytfipagndpoahlaa.Uj Go.Proofs.Ytfipagndpoahlaa.Uk Go.Proofs.Ytfipagndpoahlaa.Ul Go.Proofs.Ytfipagndpoahlaa.Um Go.Proofs.Ytfipagndpoahlaa.Un Go.Proofs.Ytfipagndpoahlaa.Uo Go.Proofs.Ytfipagndpoahlaa.Up Go.Proofs.Ytfipagndpoahlaa.Uq

theorem nbs_app (s t : ByteArray) : nbs (s ++ t) = nbs s ++ nbs t := by
  unfold nbs
  rw [ByteArray.data_append, Array.toList_append, List.map_append]
set_option maxHeartbeats 4000000 in
set_option maxRecDepth 100000 in
theorem walk (V : Array Value) (D : Df) (s t : ByteArray) (W : World) (w0 : dfa W V D) (_w1 : s.size ≤ maxLen) (_w2 : t.size ≤ maxLen) :
    Calls Try.prog 6 #[.agg V, .string s, .string t] W fun e w' => e = .returned (.bool true) ∧ Below W.heap.size W w' := by
  have HKN := Lib.hid (fun u => known_any u)
  obtain ⟨A1, c1, A2, c2, wv⟩ := w0
  obtain ⟨wb, hwb⟩ : ∃ wb, wb = W.alloc (.cells V 26) := ⟨_, rfl⟩
  have BW : Hid (Below W.heap.size W wb) := Lib.hid (by rw [hwb]; exact below_alloc _ _)
  have HBX : Hid (Blk wb W.heap.size 26 V) := Lib.hid (by rw [hwb]; exact Blk.fresh _ _ _)
  have HV := Lib.hid (wv.below BW.out)
  have HW := Lib.hid HV.out.of
  have HLI : Hid (∀ u, Below wb.heap.size wb u → Calls Try.prog 7 #[.agg V] u fun e w' => someB u e w') := Lib.hid (fun u k => Light_any (Lib.hid (HW.out.below k)))
  obtain ⟨N, hsz, hld⟩ := load_dfa (g := W.heap.size) wv.size
  have KB := Lib.hid (Below.refl wb.heap.size wb)
  obtain ⟨K, hKD⟩ : ∃ K, K = D.nx.length := ⟨_, rfl⟩
  obtain ⟨M, hMD⟩ : ∃ M, M = D.ru.length := ⟨_, rfl⟩
  have HBK := HBX
  have HBX : Hid (∀ u, Below wb.heap.size wb u → Blk u W.heap.size 26 V ∧ u.cell? ⟨W.heap.size, 256, none⟩ = some (.slice A1 K c1) ∧ u.cell? ⟨W.heap.size, 257, none⟩ = some (.slice A2 M c2)) := Lib.hid (fun u k => ⟨HBK.out.below k, ((HBK.out.below k).cell 256).trans (by rw [hKD]; exact HV.out.vn), ((HBK.out.below k).cell 257).trans (by rw [hMD]; exact HV.out.vr)⟩)
  have zb := HBX.out wb KB.out
  by_cases h6 : 60 < K
  · have h6' : (60 : Int) < (K : Int) := by omega
    clear wv _w1 _w2 HW HV HBK hKD hMD
    go_enter Try.func6, Try.ntmps6
    go_upto_region 1 with fail
    rw [← hwb]
    clear hwb
    go_upto_region 2 with (go_at_call 7; refine (HLI.out _ KB.out).mono ?_; rintro e u ⟨bl, rfl, k⟩; have KB := Lib.hid (grows KB.out k); clear k zb; have zb := HBX.out _ KB.out; cases bl)
    all_goals
      go_wp2_with (go_at_call 8; refine (HKN.out _).mono ?_; rintro e u ⟨rfl, k⟩; have KB := Lib.hid (grows KB.out k); clear k zb; have zb := HBX.out _ KB.out)
      go_ret
      exact ⟨rfl, grows BW.out KB.out⟩
  have h6' : ¬ (60 : Int) < (K : Int) := by omega
  have hK6 : K ≤ 60 := by omega
  by_cases h9 : 300 < s.size
  · have h9' : (300 : Int) < (s.size : Int) := by omega
    clear wv _w1 _w2 HW HV HBK hKD hMD
    go_enter Try.func6, Try.ntmps6
    go_upto_region 1 with fail
    rw [← hwb]
    clear hwb
    go_upto_region 2 with (go_at_call 7; refine (HLI.out _ KB.out).mono ?_; rintro e u ⟨bl, rfl, k⟩; have KB := Lib.hid (grows KB.out k); clear k zb; have zb := HBX.out _ KB.out; cases bl)
    all_goals
      go_wp2_with (go_at_call 8; refine (HKN.out _).mono ?_; rintro e u ⟨rfl, k⟩; have KB := Lib.hid (grows KB.out k); clear k zb; have zb := HBX.out _ KB.out)
      go_ret
      exact ⟨rfl, grows BW.out KB.out⟩
  have h9' : ¬ (300 : Int) < (s.size : Int) := by omega
  by_cases h7 : 300 < t.size
  · have h7' : (300 : Int) < (t.size : Int) := by omega
    clear wv _w1 _w2 HW HV HBK hKD hMD
    go_enter Try.func6, Try.ntmps6
    go_upto_region 1 with fail
    rw [← hwb]
    clear hwb
    go_upto_region 2 with (go_at_call 7; refine (HLI.out _ KB.out).mono ?_; rintro e u ⟨bl, rfl, k⟩; have KB := Lib.hid (grows KB.out k); clear k zb; have zb := HBX.out _ KB.out; cases bl)
    all_goals
      go_wp2_with (go_at_call 8; refine (HKN.out _).mono ?_; rintro e u ⟨rfl, k⟩; have KB := Lib.hid (grows KB.out k); clear k zb; have zb := HBX.out _ KB.out)
      go_ret
      exact ⟨rfl, grows BW.out KB.out⟩
  have h7' : ¬ (300 : Int) < (t.size : Int) := by omega
  by_cases ho : okD D
  · have HO := Lib.hid ho
    have HR : Hid (∀ u, Below wb.heap.size wb u → Calls Try.prog 9 #[.agg V] u fun e w' => e = .returned (.bool true) ∧ Below u.heap.size u w') := Lib.hid (fun u k => (Right_any (Lib.hid (HW.out.below k))).mono fun e w' h => h.yes HO.out)
    have HL1 : Hid (∀ u, Below wb.heap.size wb u → Calls Try.prog 18 #[.agg V] u fun e w' => livA D u e w') := Lib.hid (fun u k => Live_any (Lib.hid (HW.out.below k)))
    obtain ⟨p, hp⟩ : ∃ p, p = gos D 0 (nbs s) := ⟨_, rfl⟩
    have hpD : p < D.nx.length := by rw [hp]; exact ho.gos_lt _ ho.k1 (fun d hd => nbs_lt d hd)
    have hpK : p < K := by rw [hKD]; exact hpD
    have HRS : Hid (∀ u, Below wb.heap.size wb u → Calls Try.prog 13 #[.agg V, .string s] u fun e w' => e = .returned (.int .i64 (p : Int)) ∧ Below u.heap.size u w') := Lib.hid (fun u k => by
      have := Run_any (s := s) (by omega) (Lib.hid (HW.out.below k))
      rw [runI_yes HO.out, ← hp] at this
      exact this)
    have hru : ∀ (x : List Nat) (r : Int), D.ru[gos D 0 x]? = some r → at' D.ru (gos D 0 x) = r := fun x r h => by
      rw [at_get (List.getElem?_eq_some_iff.1 h).1] at h
      exact Option.some.inj h
    have HAF : Hid (¬ lv D p → ∀ u, Below wb.heap.size wb u → Calls Try.prog 15 #[.agg V, .string s] u fun e w' => e = .returned (.int .i64 (-1)) ∧ Below u.heap.size u w') := Lib.hid (fun hn u k => by
      have h := After_any (s := s) (by omega) (Lib.hid (HW.out.below k))
      have hd := HO.out.dead [] hpD (fun c hc => by cases hc) hn
      rw [aftI_yes HO.out, hru (nbs s) (-1) (by rw [← hp]; exact hd)] at h
      exact h)
    have HAG : Hid (¬ lv D p → ∀ u, Below wb.heap.size wb u → Calls Try.prog 15 #[.agg V, .string (s ++ t)] u fun e w' => e = .returned (.int .i64 (-1)) ∧ Below u.heap.size u w') := Lib.hid (fun hn u k => by
      have h := After_any (s := s ++ t) (by rw [ByteArray.size_append]; omega) (Lib.hid (HW.out.below k))
      have hd := HO.out.dead (nbs t) hpD (fun c hc => nbs_lt c hc) hn
      rw [aftI_yes HO.out, hru (nbs (s ++ t)) (-1) (by rw [nbs_app, gos_app, ← hp]; exact hd)] at h
      exact h)
    have HKD := Lib.hid hKD
    have hp0 : ¬ (p : Int) < 0 := by omega
    have hp1 : ¬ (K : Int) ≤ (p : Int) := by omega
    have hp2 : (p : Int) < (K : Int) := by omega
    have hp3 : (0 : Int) ≤ (p : Int) := by omega
    clear wv _w1 _w2 HW HV HBK hKD hMD ho hp hpD hru h6 h9 h7
    go_enter Try.func6, Try.ntmps6
    go_upto_region 1 with fail
    rw [← hwb]
    clear hwb
    go_upto_region 5 with (first | (go_at_call 7; refine (HLI.out _ KB.out).mono ?_; rintro e u ⟨bl, rfl, k⟩; have KB := Lib.hid (grows KB.out k); clear k zb; have zb := HBX.out _ KB.out; cases bl) | (go_at_call 9; (with_reducible refine (HR.out _ KB.out).mono ?_); rintro e u ⟨rfl, k⟩; have KB := Lib.hid (grows KB.out k); clear k zb; have zb := HBX.out _ KB.out) | (go_at_call 18; (with_reducible refine (HL1.out _ KB.out).mono ?_); rintro e u ⟨A3, n3, p3, f3, rfl, r3, q3, y3, _, k⟩; obtain ⟨hn, hy⟩ := y3 HO.out; have hn2 : n3 = K := hn.trans HKD.out.symm; clear hn y3; subst hn2; have R3 := Lib.hid r3; have HY := Lib.hid hy; clear r3 hy q3; have KB := Lib.hid (grows KB.out k); clear k zb; have zb := HBX.out _ KB.out) | (go_at_call 13; (with_reducible refine (HRS.out _ KB.out).mono ?_); rintro e u ⟨rfl, k⟩; have R3 := Lib.hid (R3.out.below k); have KB := Lib.hid (grows KB.out k); clear k zb; have zb := HBX.out _ KB.out))
    · go_wp2_with (go_at_call 8; refine (HKN.out _).mono ?_; rintro e u ⟨rfl, k⟩; have KB := Lib.hid (grows KB.out k); clear k zb; have zb := HBX.out _ KB.out)
      go_ret
      exact ⟨rfl, grows BW.out KB.out⟩
    · obtain ⟨b4, o4, rfl, hb4, hc4⟩ := R3.out p hpK
      have HN : Hid (f3 p = false → ¬ lv D p) := Lib.hid (fun h k => by rw [(HY.out p hpK).2 k] at h; cases h)
      obtain ⟨x, hx⟩ : ∃ x, x = f3 p := ⟨_, rfl⟩
      rw [← hx] at hc4
      rw [← hx] at HN
      clear hx hb4 hpK
      cases x
      · have HAF := Lib.hid (HAF.out (HN.out rfl))
        have HAG := Lib.hid (HAG.out (HN.out rfl))
        go_wp2_with (first | (go_at_call 15; (with_reducible refine (HAG.out _ KB.out).mono ?_); rintro e u ⟨rfl, k⟩; have KB := Lib.hid (grows KB.out k); clear k zb; have zb := HBX.out _ KB.out) | (go_at_call 15; (with_reducible refine (HAF.out _ KB.out).mono ?_); rintro e u ⟨rfl, k⟩; have KB := Lib.hid (grows KB.out k); clear k zb; have zb := HBX.out _ KB.out) | (go_at_call 8; refine (HKN.out _).mono ?_; rintro e u ⟨rfl, k⟩; have KB := Lib.hid (grows KB.out k); clear k zb; have zb := HBX.out _ KB.out))
        go_ret
        exact ⟨rfl, grows BW.out KB.out⟩
      · go_wp2_with (go_at_call 8; refine (HKN.out _).mono ?_; rintro e u ⟨rfl, k⟩; have KB := Lib.hid (grows KB.out k); clear k zb; have zb := HBX.out _ KB.out)
        go_ret
        exact ⟨rfl, grows BW.out KB.out⟩
  · have HO := Lib.hid ho
    have HR : Hid (∀ u, Below wb.heap.size wb u → Calls Try.prog 9 #[.agg V] u fun e w' => e = .returned (.bool false) ∧ Below u.heap.size u w') := Lib.hid (fun u k => (Right_any (Lib.hid (HW.out.below k))).mono fun e w' h => h.no HO.out)
    clear wv _w1 _w2 HW HV HBK hKD hMD ho h6 h9 h7
    go_enter Try.func6, Try.ntmps6
    go_upto_region 1 with fail
    rw [← hwb]
    clear hwb
    go_upto_region 2 with (first | (go_at_call 7; refine (HLI.out _ KB.out).mono ?_; rintro e u ⟨bl, rfl, k⟩; have KB := Lib.hid (grows KB.out k); clear k zb; have zb := HBX.out _ KB.out; cases bl) | (go_at_call 9; (with_reducible refine (HR.out _ KB.out).mono ?_); rintro e u ⟨rfl, k⟩; have KB := Lib.hid (grows KB.out k); clear k zb; have zb := HBX.out _ KB.out))
    all_goals
      go_wp2_with (go_at_call 8; refine (HKN.out _).mono ?_; rintro e u ⟨rfl, k⟩; have KB := Lib.hid (grows KB.out k); clear k zb; have zb := HBX.out _ KB.out)
      go_ret
      exact ⟨rfl, grows BW.out KB.out⟩
end Go.Proofs.Ytfipagndpoahlaa.Uxdead
