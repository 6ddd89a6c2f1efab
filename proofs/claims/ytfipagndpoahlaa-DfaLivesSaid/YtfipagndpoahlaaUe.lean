/-
  Right of layer 18: whether an automaton can be.
  Conditions: none but the automaton's cells.
-/
import Derived.Test.YtfipagndpoahlaaUd
import Derived.Deep.RegionWith
import Derived.Deep.RegionHeld3
namespace Go.Proofs.Ytfipagndpoahlaa.Ue
open Go.RowKit Go.Proofs.Ytfipagndpoahlaa.Bw Go.Proofs.Ytfipagndpoahlaa.Na Go.Proofs.Ytfipagndpoahlaa.Ko Go.Proofs.Ytfipagndpoahlaa.Ua Go.Proofs.Ytfipagndpoahlaa.Ub Go.Proofs.Ytfipagndpoahlaa.Uc Go.Proofs.Ytfipagndpoahlaa.Ud

theorem okD_of {D : Df} {m : Nat} (hc : D.cl.length = 256) (h1 : 1 ≤ D.nx.length) (h2 : D.nx.length ≤ 1000) (h3 : D.ru.length = D.nx.length) (hm : clsQ D.cl 0 = some m)
    (h : ∀ a, a < D.nx.length → isR (at' D.ru a) = true ∧ ∀ l, D.nx[a]? = some l → okL D l m) : okD D :=
  ⟨h1, h2, h3, hc, fun x hx => by
    obtain ⟨a, ha⟩ := List.mem_iff_getElem?.1 hx
    have hl := (List.getElem?_eq_some_iff.1 ha).1
    rw [at_get hl] at ha
    have := (h a (by omega)).1
    rw [Option.some.inj ha] at this
    exact of_decide_eq_true this, m, hm, fun l hl => by
    obtain ⟨a, ha⟩ := List.mem_iff_getElem?.1 hl
    exact (h a (List.getElem?_eq_some_iff.1 ha).1).2 l ha⟩
/-- What the load of a whole automaton gives, as two rules of the walk: the number of cells stays a letter. -/
theorem load_dfa {V : Array Value} {g : Nat} (hV : V.size = 258) : ∃ N : Nat, (∀ w, (sizeOf 26).run Try.prog w = .ok N w) ∧ ∀ w, Blk w g 26 V → (loadCellsFrom ⟨g, 0, none⟩ 0 N #[]).run Try.prog w = .ok V w :=
  ⟨258, Try.sizeOf26, fun w h => by
    have := run_loadCells_list (P := Try.prog) w ⟨g, 0, none⟩ V.toList (fun j v hv => by
      have hadd : (⟨g, 0, none⟩ : Addr).add j = ⟨g, j, none⟩ := by unfold Addr.add; split <;> simp_all
      rw [hadd, h.cell j]
      simpa using hv)
    simpa [loadCells, hV] using this⟩
set_option maxHeartbeats 4000000 in
set_option maxRecDepth 100000 in
theorem Right_any {w : World} {V : Array Value} {D : Df} (H : Hid (dfa w V D)) :
    Calls Try.prog 9 #[.agg V] w fun e w' => ansB (okD D) w e w' := by
  have HW := H
  obtain ⟨A1, c1, A2, c2, H⟩ := H.out
  have H := Lib.hid H
  obtain ⟨K, hK⟩ : ∃ K, K = D.nx.length := ⟨_, rfl⟩
  obtain ⟨M, hM⟩ : ∃ M, M = D.ru.length := ⟨_, rfl⟩
  obtain ⟨w1, hw1⟩ : ∃ w1, w1 = w.alloc (.cells V 26) := ⟨_, rfl⟩
  have B1 : Hid (Below w.heap.size w w1) := Lib.hid (by rw [hw1]; exact below_alloc _ _)
  have K1 : Hid (Blk w1 w.heap.size 26 V) := Lib.hid (by rw [hw1]; exact Blk.fresh _ _ _)
  have HD1 : Hid (∀ u, Below w1.heap.size w1 u → u.cell? ⟨w.heap.size, 256, none⟩ = some (.slice A1 K c1) ∧ u.cell? ⟨w.heap.size, 257, none⟩ = some (.slice A2 M c2)) := Lib.hid (fun u k => ⟨((K1.out.below k).cell 256).trans (by rw [hK]; exact H.out.vn), ((K1.out.below k).cell 257).trans (by rw [hM]; exact H.out.vr)⟩)
  obtain ⟨d1, d2⟩ := HD1.out w1 (Below.refl _ _)
  have HV : Hid ((Try.prog.info? 26).map (·.size) = some V.size) := Lib.hid (by rw [H.out.size]; exact infoD)
  have HKK := Lib.hid hK
  have HMM := Lib.hid hM
  clear hK hM
  by_cases h1 : K < 1
  · have g1 : (K : Int) < 1 := by omega
    have HX : Hid (¬ okD D) := Lib.hid (fun k => by have := k.k1; have := HKK.out; omega)
    clear h1
    go_enter Try.func9, Try.ntmps9
    go_upto_region 1 with fail
    rw [← hw1]
    clear hw1
    go_wp2
    go_ret
    exact ⟨_, rfl, not_iff_false HX.out, B1.out⟩
  by_cases h2 : 1000 < K
  · have g1 : ¬ (K : Int) < 1 := by omega
    have g2 : (1000 : Int) < (K : Int) := by omega
    have HX : Hid (¬ okD D) := Lib.hid (fun k => by have := k.k2; have := HKK.out; omega)
    clear h1 h2
    go_enter Try.func9, Try.ntmps9
    go_upto_region 1 with fail
    rw [← hw1]
    clear hw1
    go_wp2
    go_ret
    exact ⟨_, rfl, not_iff_false HX.out, B1.out⟩
  by_cases h3 : M = K
  · subst h3
    have g1 : ¬ (M : Int) < 1 := by omega
    have g2 : ¬ (1000 : Int) < (M : Int) := by omega
    have HC := Lib.hid (count_any (Lib.hid (HW.out.below B1.out)))
    have H1 := Lib.hid h1
    have H2 := Lib.hid h2
    have hM9 : M ≤ 1000 := by omega
    clear h1 h2
    rcases hm : clsQ D.cl 0 with _ | m
    · have HX : Hid (¬ okD D) := Lib.hid (fun k => by obtain ⟨m, h, _⟩ := k.row; rw [hm] at h; cases h)
      rw [hm] at HC
      clear hm
      go_enter Try.func9, Try.ntmps9
      go_upto_region 1 with fail
      rw [← hw1]
      clear hw1
      go_wp2_with (first | (refine wpList_load_part rfl 26 _ rfl w.heap.size 0 rfl V _ (Blk_part K1.out) Try.underlying26 rfl HV.out ?_) | (go_at_call 23; refine HC.out.mono ?_; rintro e w2 ⟨rfl, k2⟩; have K2 := Lib.hid (grows B1.out k2); clear k2; unfold cntV))
      go_ret
      exact ⟨_, rfl, not_iff_false HX.out, K2.out⟩
    · have HM := Lib.hid hm
      rw [hm] at HC
      clear hm
      go_enter Try.func9, Try.ntmps9
      go_upto_region 1 with fail
      rw [← hw1]
      clear hw1
      go_wp2_with (first | (refine wpList_load_part rfl 26 _ rfl w.heap.size 0 rfl V _ (Blk_part K1.out) Try.underlying26 rfl HV.out ?_) | (go_at_call 23; refine HC.out.mono ?_; rintro e w2 ⟨rfl, k2⟩; have K2 := Lib.hid k2; clear k2; unfold cntV))
      clear d1 d2 g1 g2
      go_loopw [31, 6] (fun s31 _ wr => ∃ i : Nat, s31 = .int .i64 (i : Int) ∧ i ≤ M ∧ Hid (∀ a, a < i → isR (at' D.ru a) = true ∧ ∀ l, D.nx[a]? = some l → okL D l m) ∧ Hid (Below w1.heap.size w1 wr)) (fun s31 _ _ => M - (intOf s31).toNat)
      case atStart => exact ⟨0, rfl, by omega, Lib.hid (fun a ha => absurd ha (by omega)), K2⟩
      case round =>
        obtain ⟨i, rfl, hi, HA, HB⟩ := hrel
        by_cases hin : i < M
        · have hin' : (i : Int) < (M : Int) := by omega
          have hi0 : (0 : Int) ≤ (i : Int) := by omega
          have HIN := Lib.hid hin
          have HBW := Lib.hid (grows B1.out HB.out)
          obtain ⟨d1, d2⟩ := HD1.out wr HB.out
          obtain ⟨l, hl⟩ : ∃ l, D.nx[i]? = some l := ⟨_, List.getElem?_eq_getElem (by rw [← HKK.out]; exact hin)⟩
          obtain ⟨b1, o1, rfl, hb1, A', c', hrw, hlc, hlm, hr⟩ := (H.out.n.below HBW.out) i l hl
          obtain ⟨b2, o2, rfl, hb2, hce⟩ := (H.out.r.below HBW.out) i (by rw [← HMM.out]; exact hin)
          have HCE : Hid (∀ u, Below wr.drew.heap.size wr.drew u → u.cell? ⟨b2, o2 + i, none⟩ = some (.int .i64 (at' D.ru i)) ∧ u.cell? ⟨b1, o1 + i, none⟩ = some (.slice A' l.length c')) := Lib.hid (fun u k => ⟨(k.cell (p := ⟨b2, o2 + i, none⟩) hb2).trans hce, (k.cell (p := ⟨b1, o1 + i, none⟩) hb1).trans hrw⟩)
          have HIS := Lib.hid (isRow_any (c := c') (m := m) hlm (Lib.hid (HW.out.below (below_drew HBW.out))) (Lib.hid (hr.below (below_drew (Below.refl _ _)))))
          obtain ⟨X, hX⟩ : ∃ X, X = l.length := ⟨_, rfl⟩
          obtain ⟨r, hre⟩ : ∃ r, r = at' D.ru i := ⟨_, rfl⟩
          rw [← hX] at hrw hlc hlm HIS HCE
          rw [← hre] at hce HCE
          have HRE := Lib.hid hre
          have HL := Lib.hid hl
          obtain ⟨N, hsz, hld⟩ := load_dfa (g := w.heap.size) H.out.size
          clear hX hre hl hr hin hb1 hb2 hlc hlm
          by_cases hok : okL D l m
          · have HOK := Lib.hid hok
            clear hok
            by_cases hrr : isR r = true
            · have HRR := Lib.hid hrr
              have HNX : Hid (∀ a, a < i + 1 → isR (at' D.ru a) = true ∧ ∀ l, D.nx[a]? = some l → okL D l m) := Lib.hid (fun a ha => by
                rcases (show a < i ∨ a = i by omega) with h | rfl
                · exact HA.out a h
                · refine ⟨by rw [← HRE.out]; exact HRR.out, fun l' hl' => ?_⟩
                  rw [HL.out] at hl'
                  obtain rfl := Option.some.inj hl'
                  exact HOK.out)
              clear hrr
              go_wp2
              go_region_held3 (fun w' => Blk w' w.heap.size 26 V ∧ w'.cell? ⟨w.heap.size, 256, none⟩ = some (.slice (some ⟨b1, o1, none⟩) M c1) ∧ w'.cell? ⟨w.heap.size, 257, none⟩ = some (.slice (some ⟨b2, o2, none⟩) M c2) ∧ w'.cell? ⟨b1, o1 + i, none⟩ = some (.slice A' X c') ∧ w'.cell? ⟨b2, o2 + i, none⟩ = some (.int .i64 r))
                (first | exact ⟨K1.out.below (below_drew HB.out), d1, d2, hrw, hce⟩ | exact hz2 | assumption)
                (first | (go_at_call 24; refine HIS.out.mono ?_; rintro e w2 h2; obtain ⟨rfl, k2⟩ := h2.yes HOK.out; have K2 := Lib.hid (grows HB.out (grows (below_draws _ 1) k2)); have hz2 := And.intro (K1.out.below K2.out) (And.intro (HD1.out _ K2.out).1 (And.intro (HD1.out _ K2.out).2 (And.intro (HCE.out _ k2).2 (HCE.out _ k2).1))); clear h2 k2) | (go_at_call 25; refine (isRule_any _ _).mono ?_; rintro e w3 ⟨rfl, rfl⟩; rw [HRR.out]))
              clear hsz hld
              go_wp2
              have hin := HIN.out
              go_roundw
              case rel => exact ⟨i + 1, by go_num, by omega, HNX, K2⟩
              case measure => simp [intOf]; omega
            · have HRR : Hid (isR r = false) := Lib.hid (by simpa using hrr)
              have HX : Hid (¬ okD D) := Lib.hid (fun k => by
                have := k.ru _ (List.mem_of_getElem? (at_get (l := D.ru) (i := i) (by rw [← HMM.out]; exact HIN.out)))
                rw [← HRE.out] at this
                have h2 : isR r = true := decide_eq_true this
                rw [HRR.out] at h2; cases h2)
              clear hrr
              go_wp2
              go_region_held3 (fun w' => Blk w' w.heap.size 26 V ∧ w'.cell? ⟨w.heap.size, 256, none⟩ = some (.slice (some ⟨b1, o1, none⟩) M c1) ∧ w'.cell? ⟨w.heap.size, 257, none⟩ = some (.slice (some ⟨b2, o2, none⟩) M c2) ∧ w'.cell? ⟨b1, o1 + i, none⟩ = some (.slice A' X c') ∧ w'.cell? ⟨b2, o2 + i, none⟩ = some (.int .i64 r))
                (first | exact ⟨K1.out.below (below_drew HB.out), d1, d2, hrw, hce⟩ | exact hz2 | assumption)
                (first | (go_at_call 24; refine HIS.out.mono ?_; rintro e w2 h2; obtain ⟨rfl, k2⟩ := h2.yes HOK.out; have K2 := Lib.hid (grows HB.out (grows (below_draws _ 1) k2)); have hz2 := And.intro (K1.out.below K2.out) (And.intro (HD1.out _ K2.out).1 (And.intro (HD1.out _ K2.out).2 (And.intro (HCE.out _ k2).2 (HCE.out _ k2).1))); clear h2 k2) | (go_at_call 25; refine (isRule_any _ _).mono ?_; rintro e w3 ⟨rfl, rfl⟩; rw [HRR.out]))
              clear hsz hld
              go_wp2
              go_ret
              exact ⟨_, rfl, not_iff_false HX.out, grows B1.out K2.out⟩
          · have HOK := Lib.hid hok
            have HX : Hid (¬ okD D) := Lib.hid (fun k => by
              obtain ⟨m', hm', hr'⟩ := k.row
              rw [HM.out] at hm'
              obtain rfl := Option.some.inj hm'
              exact HOK.out (hr' l (List.mem_of_getElem? HL.out)))
            have hbk := K1.out.below (below_drew HB.out)
            clear hok
            go_wp2
            first | go_region_with (go_at_call 24; refine HIS.out.mono ?_; rintro e w2 h2; obtain ⟨rfl, k2⟩ := h2.no HOK.out; have K2 := Lib.hid (grows HB.out (grows (below_draws _ 1) k2)); have hz2 := And.intro (K1.out.below K2.out) (And.intro (HD1.out _ K2.out).1 (And.intro (HD1.out _ K2.out).2 (And.intro (HCE.out _ k2).2 (HCE.out _ k2).1))); clear h2 k2) | fail "AT"
            all_goals
              clear hsz hld
              go_wp2
              go_ret
              exact ⟨_, rfl, not_iff_false HX.out, grows B1.out K2.out⟩
        · have hin' : ¬ (i : Int) < (M : Int) := by omega
          have HX : Hid (okD D) := Lib.hid (okD_of H.out.c (by have := H1.out; have := HKK.out; omega) (by have := H2.out; have := HKK.out; omega) (by have := HMM.out; have := HKK.out; omega) HM.out (fun a ha => HA.out a (by have := HKK.out; omega)))
          clear hin hi
          go_wp2
          go_ret
          exact ⟨_, rfl, is_iff_true HX.out, grows B1.out HB.out⟩
  · have g1 : ¬ (K : Int) < 1 := by omega
    have g2 : ¬ (1000 : Int) < (K : Int) := by omega
    have HX : Hid (¬ okD D) := Lib.hid (fun k => by have := k.r; have := HKK.out; have := HMM.out; omega)
    clear h1 h2
    go_enter Try.func9, Try.ntmps9
    go_upto_region 1 with fail
    rw [← hw1]
    clear hw1
    go_wp2
    go_ret
    exact ⟨_, rfl, not_iff_false HX.out, B1.out⟩
end Go.Proofs.Ytfipagndpoahlaa.Ue
