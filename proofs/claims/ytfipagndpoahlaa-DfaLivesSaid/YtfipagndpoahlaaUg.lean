/-
  The reference's Right (layer 18).
  Conditions: none but the automaton's cells.
-/
import Derived.Test.YtfipagndpoahlaaUf
namespace Go.Proofs.Ytfipagndpoahlaa.Ug
open Go.RowKit Go.PlainAid Go.Proofs.Ytfipagndpoahlaa.Bw Go.Proofs.Ytfipagndpoahlaa.Na Go.Proofs.Ytfipagndpoahlaa.Ko Go.Proofs.Ytfipagndpoahlaa.Ua Go.Proofs.Ytfipagndpoahlaa.Ub Go.Proofs.Ytfipagndpoahlaa.Uc Go.Proofs.Ytfipagndpoahlaa.Ud Go.Proofs.Ytfipagndpoahlaa.Ue Go.Proofs.Ytfipagndpoahlaa.Uf

set_option maxHeartbeats 4000000 in
set_option maxRecDepth 100000 in
theorem rRight_any {w : World} {V : Array Value} {D : Df} (H : Hid (dfa w V D)) :
    Calls Try.prog 10 #[.agg V] w fun e w' => ansB (okD D) w e w' := by
  obtain ⟨A1, c1, A2, c2, H⟩ := H.out
  have H := Lib.hid H
  obtain ⟨K, hK⟩ : ∃ K, K = D.nx.length := ⟨_, rfl⟩
  obtain ⟨M, hM⟩ : ∃ M, M = D.ru.length := ⟨_, rfl⟩
  obtain ⟨w1, hw1⟩ : ∃ w1, w1 = w.alloc (.cells V 26) := ⟨_, rfl⟩
  have B1 : Hid (Below w.heap.size w w1) := Lib.hid (by rw [hw1]; exact below_alloc _ _)
  have K1 : Hid (Blk w1 w.heap.size 26 V) := Lib.hid (by rw [hw1]; exact Blk.fresh _ _ _)
  have HD1 : Hid (∀ u, Below w1.heap.size w1 u → u.cell? ⟨w.heap.size, 256, none⟩ = some (.slice A1 K c1) ∧ u.cell? ⟨w.heap.size, 257, none⟩ = some (.slice A2 M c2)) := Lib.hid (fun u k => ⟨((K1.out.below k).cell 256).trans (by rw [hK]; exact H.out.vn), ((K1.out.below k).cell 257).trans (by rw [hM]; exact H.out.vr)⟩)
  obtain ⟨d1, d2⟩ := HD1.out w1 (Below.refl _ _)
  have HKK := Lib.hid hK
  have HMM := Lib.hid hM
  clear hK hM
  by_cases h1 : K < 1
  · have g1 : (K : Int) < 1 := by omega
    have HX : Hid (¬ okD D) := Lib.hid (fun k => by have := k.k1; have := HKK.out; omega)
    clear h1
    go_enter Try.func10, Try.ntmps10
    go_upto_region 1 with fail
    rw [← hw1]
    clear hw1
    go_wp2
    go_ret
    exact ⟨_, rfl, not_iff_false HX.out, B1.out⟩
  by_cases h2 : 1000 < K
  · have g1 : ¬ (K : Int) < 1 := by omega
    have g2 : (1000 : Int) < (K : Int) := by omega
    have HX : Hid (¬ okD D) := Lib.hid (fun k => by have := k.k2; have := HKK.out; omega)
    clear h1 h2
    go_enter Try.func10, Try.ntmps10
    go_upto_region 1 with fail
    rw [← hw1]
    clear hw1
    go_wp2
    go_ret
    exact ⟨_, rfl, not_iff_false HX.out, B1.out⟩
  by_cases h3 : M = K
  · subst h3
    have g1 : ¬ (M : Int) < 1 := by omega
    have g2 : ¬ (1000 : Int) < (M : Int) := by omega
    have H1 := Lib.hid h1
    have H2 := Lib.hid h2
    have hM9 : M ≤ 1000 := by omega
    clear h1 h2
    go_enter Try.func10, Try.ntmps10
    go_upto_region 1 with fail
    rw [← hw1]
    clear hw1
    go_wp2
    clear d1 d2 g1 g2
    go_loopw [5, 4] (fun s5 s4 wr => ∃ i k : Nat, s5 = .int .i64 (i : Int) ∧ s4 = .int .i64 (k : Int) ∧ i ≤ 256 ∧ k ≤ i ∧ Hid (clsQ D.cl 0 = clsQ (D.cl.drop i) k) ∧ Hid (Below w1.heap.size w1 wr)) (fun s5 _ _ => 256 - (intOf s5).toNat)
    case atStart => exact ⟨0, 0, rfl, rfl, by omega, by omega, Lib.hid rfl, Lib.hid (Below.refl _ _)⟩
    case round =>
      obtain ⟨i, k, rfl, rfl, hi, hk, HC, HB⟩ := hrel
      by_cases hin : i < 256
      · have hin' : (i : Int) < 256 := by omega
        have hi0 : (0 : Int) ≤ (i : Int) := by omega
        have HIN := Lib.hid hin
        obtain ⟨x, hx⟩ : ∃ x, x = at' D.cl i := ⟨_, rfl⟩
        have e0 : wr.cell? ⟨w.heap.size, i, none⟩ = some (.int .i64 x) := ((K1.out.below HB.out).cell i).trans (by rw [hx]; exact H.out.vc hin)
        have HD : Hid (clsQ D.cl 0 = if x < 0 ∨ (k : Int) < x then none else clsQ (D.cl.drop (i + 1)) (if x = (k : Int) then k + 1 else k)) := Lib.hid (by
          rw [HC.out, drop_at (by rw [H.out.c]; exact hin), clsQ, ← hx])
        clear hx hin
        by_cases h1 : x < 0
        · have HX : Hid (¬ okD D) := Lib.hid (fun q => by obtain ⟨m, h, _⟩ := q.row; rw [HD.out, if_pos (.inl h1)] at h; cases h)
          go_wp2
          go_ret
          exact ⟨_, rfl, not_iff_false HX.out, grows B1.out HB.out⟩
        · by_cases h2 : (k : Int) < x
          · have HX : Hid (¬ okD D) := Lib.hid (fun q => by obtain ⟨m, h, _⟩ := q.row; rw [HD.out, if_pos (.inr h2)] at h; cases h)
            go_wp2
            go_ret
            exact ⟨_, rfl, not_iff_false HX.out, grows B1.out HB.out⟩
          · have HE : Hid (clsQ D.cl 0 = clsQ (D.cl.drop (i + 1)) (if x = (k : Int) then k + 1 else k)) := Lib.hid (by rw [HD.out, if_neg (by omega)])
            by_cases h3 : x = (k : Int)
            · have HE2 : Hid (clsQ D.cl 0 = clsQ (D.cl.drop (i + 1)) (k + 1)) := Lib.hid (by rw [HE.out, if_pos h3])
              subst h3
              go_wp2
              have hin := HIN.out
              go_roundw
              case rel => exact ⟨i + 1, k + 1, by go_num, by go_num, by omega, by omega, HE2, HB⟩
              case measure => simp [intOf]; omega
            · have HE2 : Hid (clsQ D.cl 0 = clsQ (D.cl.drop (i + 1)) k) := Lib.hid (by rw [HE.out, if_neg h3])
              go_wp2
              have hin := HIN.out
              go_roundw
              case rel => exact ⟨i + 1, k, by go_num, rfl, by omega, by omega, HE2, HB⟩
              case measure => simp [intOf]; omega
      · have hin' : ¬ (i : Int) < 256 := by omega
        have HM : Hid (clsQ D.cl 0 = some k) := Lib.hid (by
          rw [HC.out, List.drop_eq_nil_of_le (by rw [H.out.c]; omega)]; rfl)
        have hk9 : k ≤ 256 := by omega
        clear hin hi hk
        go_wp2
        go_loopw [6, 7] (fun s6 _ wz => ∃ i : Nat, s6 = .int .i64 (i : Int) ∧ i ≤ M ∧ Hid (∀ a, a < i → isR (at' D.ru a) = true ∧ ∀ l, D.nx[a]? = some l → okL D l k) ∧ Hid (Below w1.heap.size w1 wz)) (fun s6 _ _ => M - (intOf s6).toNat)
        case atStart => exact ⟨0, rfl, by omega, Lib.hid (fun a ha => absurd ha (by omega)), HB⟩
        case round =>
          clear HB
          obtain ⟨i, rfl, hi, HA, HB⟩ := hrel
          by_cases hin : i < M
          · have hin' : (i : Int) < (M : Int) := by omega
            have hi0 : (0 : Int) ≤ (i : Int) := by omega
            have HIN := Lib.hid hin
            have HBW := Lib.hid (grows B1.out HB.out)
            obtain ⟨d1, d2⟩ := HD1.out wr HB.out
            obtain ⟨l, hl⟩ : ∃ l, D.nx[i]? = some l := ⟨_, List.getElem?_eq_getElem (by rw [← HKK.out]; exact hin)⟩
            obtain ⟨b1, o1, rfl, hb1, A', c', hrw, hlc, hlm, hr⟩ := (H.out.n.below HBW.out) i l hl
            obtain ⟨b2, o2, rfl, hb2, hce⟩ := (H.out.r.below HBW.out) i (by rw [← HMM.out]; exact hin)
            have HRO := Lib.hid hr
            obtain ⟨X, hX⟩ : ∃ X, X = l.length := ⟨_, rfl⟩
            have HXL := Lib.hid hX
            obtain ⟨r, hre⟩ : ∃ r, r = at' D.ru i := ⟨_, rfl⟩
            rw [← hX] at hrw hlc hlm
            rw [← hre] at hce
            have HRE := Lib.hid hre
            have HL := Lib.hid hl
            have HRW : Hid (∀ u, Below wr.heap.size wr u → u.cell? ⟨b1, o1 + i, none⟩ = some (.slice A' X c')) := Lib.hid (fun u q => (q.cell (p := ⟨b1, o1 + i, none⟩) hb1).trans hrw)
            clear hX hre hl hr hin hb1 hb2 hlc hlm
            by_cases q1 : r < -1
            · have HX : Hid (¬ okD D) := Lib.hid (fun q => by
                have := q.ru _ (List.mem_of_getElem? (at_get (l := D.ru) (i := i) (by rw [← HMM.out]; exact HIN.out)))
                rw [← HRE.out] at this; omega)
              go_wp2
              go_ret
              exact ⟨_, rfl, not_iff_false HX.out, HBW.out⟩
            · by_cases q2 : 31 < r
              · have HX : Hid (¬ okD D) := Lib.hid (fun q => by
                  have := q.ru _ (List.mem_of_getElem? (at_get (l := D.ru) (i := i) (by rw [← HMM.out]; exact HIN.out)))
                  rw [← HRE.out] at this; omega)
                go_wp2
                go_ret
                exact ⟨_, rfl, not_iff_false HX.out, HBW.out⟩
              · have HRR : Hid (isR r = true) := Lib.hid (decide_eq_true (by omega))
                by_cases q3 : X = k
                · subst q3
                  go_wp2
                  clear d1 d2 hrw hce q1 q2
                  go_loopw [7] (fun s7 wz => ∃ j : Nat, s7 = .int .i64 (j : Int) ∧ j ≤ X ∧ Hid (∀ a x, a < j → l[a]? = some x → inS D x) ∧ Hid (Below wr.heap.size wr wz)) (fun s7 _ => X - (intOf s7).toNat)
                  case atStart => exact ⟨0, rfl, by omega, Lib.hid (fun a x ha => absurd ha (by omega)), Lib.hid (Below.refl _ _)⟩
                  case round =>
                    obtain ⟨j, rfl, hj, HZ, HG⟩ := hrel
                    by_cases hjn : j < X
                    · have hjn' : (j : Int) < (X : Int) := by omega
                      have hj0 : (0 : Int) ≤ (j : Int) := by omega
                      have HJN := Lib.hid hjn
                      obtain ⟨d1, _⟩ := HD1.out wr (grows HB.out HG.out)
                      have hrw := HRW.out wr HG.out
                      obtain ⟨b3, o3, rfl, hb3, hce⟩ := (HRO.out.below HG.out) j (by rw [← HXL.out]; exact hjn)
                      obtain ⟨x, hx⟩ : ∃ x, x = at' l j := ⟨_, rfl⟩
                      rw [← hx] at hce
                      have HLX : Hid (l[j]? = some x) := Lib.hid (by rw [hx]; exact at_get (by rw [← HXL.out]; exact hjn))
                      have HNO : Hid (¬ inS D x → ¬ okD D) := Lib.hid (fun hn q => by
                        obtain ⟨m', _, hr'⟩ := q.row
                        exact hn ((hr' l (List.mem_of_getElem? HL.out)).2 x (List.mem_of_getElem? HLX.out)))
                      clear hx hjn hb3
                      by_cases z1 : x < 0
                      · have HX : Hid (¬ okD D) := Lib.hid (HNO.out (fun q => by have := q.1; omega))
                        go_wp2
                        go_ret
                        exact ⟨_, rfl, not_iff_false HX.out, grows HBW.out HG.out⟩
                      · by_cases z2 : (M : Int) ≤ x
                        · have HX : Hid (¬ okD D) := Lib.hid (HNO.out (fun q => by have := q.2; have := HKK.out; omega))
                          go_wp2
                          go_ret
                          exact ⟨_, rfl, not_iff_false HX.out, grows HBW.out HG.out⟩
                        · have HNX : Hid (∀ a y, a < j + 1 → l[a]? = some y → inS D y) := Lib.hid (fun a y ha hy => by
                            rcases (show a < j ∨ a = j by omega) with h | rfl
                            · exact HZ.out a y h hy
                            · rw [HLX.out] at hy
                              obtain rfl := Option.some.inj hy
                              exact ⟨by omega, by have := HKK.out; omega⟩)
                          have z2' : x < (M : Int) := by omega
                          go_wp2
                          have hjn := HJN.out
                          go_roundw
                          case rel => exact ⟨j + 1, by go_num, by omega, HNX, HG⟩
                          case measure => simp [intOf]; omega
                    · have hjn' : ¬ (j : Int) < (X : Int) := by omega
                      have HNX : Hid (∀ a, a < i + 1 → isR (at' D.ru a) = true ∧ ∀ l, D.nx[a]? = some l → okL D l X) := Lib.hid (fun a ha => by
                        rcases (show a < i ∨ a = i by omega) with h | rfl
                        · exact HA.out a h
                        · refine ⟨by rw [← HRE.out]; exact HRR.out, fun l' hl' => ?_⟩
                          rw [HL.out] at hl'
                          obtain rfl := Option.some.inj hl'
                          exact ⟨HXL.out.symm, fun y hy => by
                            obtain ⟨a, ha⟩ := List.mem_iff_getElem?.1 hy
                            exact HZ.out a y (by have := (List.getElem?_eq_some_iff.1 ha).1; have := HXL.out; omega) ha⟩)
                      clear hjn hj
                      go_wp2
                      have hin := HIN.out
                      go_roundw
                      case rel => exact ⟨i + 1, by go_num, by omega, HNX, Lib.hid (grows HB.out HG.out)⟩
                      case measure => simp [intOf]; omega
                · have HX : Hid (¬ okD D) := Lib.hid (fun q => by
                    obtain ⟨m', hm', hr'⟩ := q.row
                    rw [HM.out] at hm'
                    obtain rfl := Option.some.inj hm'
                    exact q3 (HXL.out.trans (hr' l (List.mem_of_getElem? HL.out)).1))
                  go_wp2
                  go_ret
                  exact ⟨_, rfl, not_iff_false HX.out, HBW.out⟩
          · have hin' : ¬ (i : Int) < (M : Int) := by omega
            have HX : Hid (okD D) := Lib.hid (okD_of H.out.c (by have := H1.out; have := HKK.out; omega) (by have := H2.out; have := HKK.out; omega) (by have := HMM.out; have := HKK.out; omega) HM.out (fun a ha => HA.out a (by have := HKK.out; omega)))
            clear hin hi
            go_wp2
            go_ret
            exact ⟨_, rfl, is_iff_true HX.out, grows B1.out HB.out⟩
  · have g1 : ¬ (K : Int) < 1 := by omega
    have g2 : ¬ (1000 : Int) < (K : Int) := by omega
    have HX : Hid (¬ okD D) := Lib.hid (fun k => by have := k.r; have := HKK.out; have := HMM.out; omega)
    clear h1 h2
    go_enter Try.func10, Try.ntmps10
    go_upto_region 1 with fail
    rw [← hw1]
    clear hw1
    go_wp2
    go_ret
    exact ⟨_, rfl, not_iff_false HX.out, B1.out⟩
end Go.Proofs.Ytfipagndpoahlaa.Ug
