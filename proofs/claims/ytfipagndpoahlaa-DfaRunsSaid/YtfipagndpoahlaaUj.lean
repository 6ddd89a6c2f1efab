/-
  The reference's Same (layer 18).
  Conditions: none but the automata's cells.
-/
import Derived.Test.YtfipagndpoahlaaUi
namespace Go.Proofs.Ytfipagndpoahlaa.Uj
open Go.RowKit Go.PlainAid Go.Proofs.Ytfipagndpoahlaa.Bw Go.Proofs.Ytfipagndpoahlaa.Na Go.Proofs.Ytfipagndpoahlaa.Ko Go.Proofs.Ytfipagndpoahlaa.Ua Go.Proofs.Ytfipagndpoahlaa.Ub Go.Proofs.Ytfipagndpoahlaa.Uc Go.Proofs.Ytfipagndpoahlaa.Ud Go.Proofs.Ytfipagndpoahlaa.Ue Go.Proofs.Ytfipagndpoahlaa.Uf Go.Proofs.Ytfipagndpoahlaa.Ui

theorem two_blk (w : World) (t1 t2 : TypeId) (c1 c2 : Array Value) :
    Blk ((w.alloc (.cells c1 t1)).alloc (.cells c2 t2)) w.heap.size t1 c1 ∧ Blk ((w.alloc (.cells c1 t1)).alloc (.cells c2 t2)) (w.heap.size + 1) t2 c2
    ∧ Below w.heap.size w ((w.alloc (.cells c1 t1)).alloc (.cells c2 t2)) := by
  refine ⟨(Blk.fresh w _ _).below (below_alloc _ _), ?_, grows (below_alloc _ _) (below_alloc _ _)⟩
  have := Blk.fresh (w.alloc (.cells c1 t1)) t2 c2
  rw [size_alloc] at this; exact this
theorem below_drn {B : Nat} {a b : World} (h : Below B a b) (n : Nat) : Below B a (b.drewN n) := ⟨h.os, h.tape, h.output, h.size, h.block⟩
theorem rows_eq {E F : List (List Int)} (h : E.length = F.length) (k : ∀ a, a < E.length → E[a]? = F[a]?) : E = F := by
  refine List.ext_getElem? (fun i => ?_)
  by_cases hi : i < E.length
  · exact k i hi
  · rw [List.getElem?_eq_none (by omega), List.getElem?_eq_none (by omega)]
set_option maxHeartbeats 4000000 in
set_option maxRecDepth 100000 in
theorem rSame_any {w : World} {V V' : Array Value} {D E : Df} (H : Hid (dfa w V D)) (H' : Hid (dfa w V' E)) :
    Calls Try.prog 21 #[.agg V, .agg V'] w fun e w' => ansB (D = E) w e w' := by
  obtain ⟨A1, c1, A2, c2, H⟩ := H.out
  obtain ⟨A1', c1', A2', c2', H'⟩ := H'.out
  have H := Lib.hid H
  have H' := Lib.hid H'
  obtain ⟨w1, hw1⟩ : ∃ w1, w1 = (w.alloc (.cells V 26)).alloc (.cells V' 26) := ⟨_, rfl⟩
  obtain ⟨ka, kb, bb⟩ := two_blk w 26 26 V V'
  rw [← hw1] at ka kb bb
  have KA := Lib.hid ka
  have KB := Lib.hid kb
  have B1 := Lib.hid bb
  obtain ⟨K, hK⟩ : ∃ K, K = D.nx.length := ⟨_, rfl⟩
  obtain ⟨M, hM⟩ : ∃ M, M = D.ru.length := ⟨_, rfl⟩
  obtain ⟨K', hK'⟩ : ∃ K', K' = E.nx.length := ⟨_, rfl⟩
  obtain ⟨M', hM'⟩ : ∃ M', M' = E.ru.length := ⟨_, rfl⟩
  have HC : Hid (∀ u, Below w1.heap.size w1 u → u.cell? ⟨w.heap.size, 256, none⟩ = some (.slice A1 K c1) ∧ u.cell? ⟨w.heap.size, 257, none⟩ = some (.slice A2 M c2) ∧ u.cell? ⟨w.heap.size + 1, 256, none⟩ = some (.slice A1' K' c1') ∧ u.cell? ⟨w.heap.size + 1, 257, none⟩ = some (.slice A2' M' c2')) := Lib.hid (fun u k => ⟨((KA.out.below k).cell 256).trans (by rw [hK]; exact H.out.vn), ((KA.out.below k).cell 257).trans (by rw [hM]; exact H.out.vr), ((KB.out.below k).cell 256).trans (by rw [hK']; exact H'.out.vn), ((KB.out.below k).cell 257).trans (by rw [hM']; exact H'.out.vr)⟩)
  obtain ⟨d1, d2, d3, d4⟩ := HC.out w1 (Below.refl _ _)
  have HK := Lib.hid hK
  have HM := Lib.hid hM
  have HK' := Lib.hid hK'
  have HM' := Lib.hid hM'
  have hKb : K ≤ 9223372036854775807 := by rw [hK]; exact H.out.k
  have hMb : M ≤ 9223372036854775807 := by rw [hM]; exact H.out.m
  obtain ⟨N, hN, hsz⟩ := size_cls
  have hN0 : ¬ N = 0 := by omega
  have hl1 := load_cls H.out (g := w.heap.size) hN
  have hl2 := load_cls H'.out (g := w.heap.size + 1) hN
  obtain ⟨F, hF⟩ : ∃ F, F = arr 256 (at' D.cl) := ⟨_, rfl⟩
  obtain ⟨G, hG⟩ : ∃ G, G = arr 256 (at' E.cl) := ⟨_, rfl⟩
  obtain ⟨b, hbq⟩ : ∃ b, b = same256 (at' D.cl) (at' E.cl) := ⟨_, rfl⟩
  have heq : ∀ u, (Op.equalIn 10000 22 (.agg F) (.agg G)).run Try.prog u = .ok b u := fun u => by rw [hF, hG, hbq]; exact eq_arr _ _ u
  have HBQ : Hid (b = true ↔ D.cl = E.cl) := Lib.hid (by rw [hbq]; exact same_iff H.out.c H'.out.c)
  rw [← hF] at hl1
  rw [← hG] at hl2
  clear hK hM hK' hM' hF hG hbq hN bb
  cases b
  · have HX : Hid (¬ D = E) := Lib.hid (fun k => by have := HBQ.out.2 (by rw [k]); cases this)
    go_enter Try.func21, Try.ntmps21
    go_upto_region 1 with fail
    rw [← hw1]
    clear hw1
    go_wp2
    go_ret
    exact ⟨_, rfl, not_iff_false HX.out, B1.out⟩
  · have HCL : Hid (D.cl = E.cl) := Lib.hid (HBQ.out.1 rfl)
    by_cases h1 : K = K'
    · subst h1
      by_cases h2 : M = M'
      · subst h2
        go_enter Try.func21, Try.ntmps21
        go_upto_region 1 with fail
        rw [← hw1]
        clear hw1
        go_wp2
        clear d1 d2 d3 d4 heq hl1 hl2 hsz hN0 ka kb
        go_loopw [5, 6] (fun s5 _ wr => ∃ i : Nat, s5 = .int .i64 (i : Int) ∧ i ≤ K ∧ Hid (∀ a, a < i → D.nx[a]? = E.nx[a]?) ∧ Hid (Below w1.heap.size w1 wr)) (fun s5 _ _ => K - (intOf s5).toNat)
        case atStart => exact ⟨0, rfl, by omega, Lib.hid (fun a ha => absurd ha (by omega)), Lib.hid (Below.refl _ _)⟩
        case round =>
          obtain ⟨i, rfl, hi, HA, HB⟩ := hrel
          obtain ⟨d1, d2, d3, d4⟩ := HC.out wr HB.out
          by_cases hin : i < K
          · have hin' : (i : Int) < (K : Int) := by omega
            have hi0 : (0 : Int) ≤ (i : Int) := by omega
            have HIN := Lib.hid hin
            have HBW := Lib.hid (grows B1.out HB.out)
            obtain ⟨l, hl⟩ : ∃ l, D.nx[i]? = some l := ⟨_, List.getElem?_eq_getElem (by rw [← HK.out]; exact hin)⟩
            obtain ⟨l', hl'⟩ : ∃ l', E.nx[i]? = some l' := ⟨_, List.getElem?_eq_getElem (by rw [← HK'.out]; exact hin)⟩
            obtain ⟨b1, o1, rfl, hb1, A, c, hrw, _, hlm, hr⟩ := (H.out.n.below HBW.out) i l hl
            obtain ⟨b1', o1', rfl, hb1', A', c', hrw', _, _, hr'⟩ := (H'.out.n.below HBW.out) i l' hl'
            have HL := Lib.hid hl
            have HL' := Lib.hid hl'
            have HR := Lib.hid hr
            have HR' := Lib.hid hr'
            obtain ⟨X, hX⟩ : ∃ X, X = l.length := ⟨_, rfl⟩
            obtain ⟨X', hX'⟩ : ∃ X', X' = l'.length := ⟨_, rfl⟩
            rw [← hX] at hrw hlm
            rw [← hX'] at hrw'
            have HXL := Lib.hid hX
            have HXL' := Lib.hid hX'
            have HRW : Hid (∀ u, Below wr.heap.size wr u → u.cell? ⟨b1, o1 + i, none⟩ = some (.slice A X c) ∧ u.cell? ⟨b1', o1' + i, none⟩ = some (.slice A' X' c')) := Lib.hid (fun u q => ⟨(q.cell (p := ⟨b1, o1 + i, none⟩) hb1).trans hrw, (q.cell (p := ⟨b1', o1' + i, none⟩) hb1').trans hrw'⟩)
            have HNE : Hid (l ≠ l' → ¬ D = E) := Lib.hid (fun hn k => by rw [k, HL'.out] at HL; exact hn (Option.some.inj HL.out).symm)
            clear hl hl' hr hr' hX hX' hin hb1 hb1'
            by_cases hxx : X = X'
            · subst hxx
              go_wp2
              go_quiet (fail)
              go_wp2
              obtain ⟨w3, hw3⟩ : ∃ w3, w3 = wr.drewN nq := ⟨_, rfl⟩
              have HG3 : Hid (Below wr.heap.size wr w3) := Lib.hid (by rw [hw3]; exact below_draws _ _)
              rw [← hw3]
              clear hw3 d1 d2 d3 d4 hrw hrw'
              go_loopw [6] (fun s6 wz => ∃ j : Nat, s6 = .int .i64 (j : Int) ∧ j ≤ X ∧ Hid (∀ b, b < j → at' l b = at' l' b) ∧ Hid (Below wr.heap.size wr wz)) (fun s6 _ => X - (intOf s6).toNat)
              case atStart => exact ⟨0, rfl, by omega, Lib.hid (fun b hb => absurd hb (by omega)), HG3⟩
              case round =>
                clear HG3
                obtain ⟨j, rfl, hj, HZ, HG⟩ := hrel
                obtain ⟨d1, d2, d3, d4⟩ := HC.out wr (grows HB.out HG.out)
                obtain ⟨hrw, hrw'⟩ := HRW.out wr HG.out
                by_cases hjn : j < X
                · have hjn' : (j : Int) < (X : Int) := by omega
                  have hj0 : (0 : Int) ≤ (j : Int) := by omega
                  have HJN := Lib.hid hjn
                  obtain ⟨b3, o3, rfl, _, hce⟩ := (HR.out.below HG.out) j (by rw [← HXL.out]; exact hjn)
                  obtain ⟨b4, o4, rfl, _, hce'⟩ := (HR'.out.below HG.out) j (by rw [← HXL'.out]; exact hjn)
                  obtain ⟨x, hx⟩ : ∃ x, x = at' l j := ⟨_, rfl⟩
                  obtain ⟨y, hy⟩ : ∃ y, y = at' l' j := ⟨_, rfl⟩
                  rw [← hx] at hce
                  rw [← hy] at hce'
                  have HXE := Lib.hid hx
                  have HYE := Lib.hid hy
                  clear hx hy hjn
                  by_cases hxy : x = y
                  · subst hxy
                    have HNX : Hid (∀ b, b < j + 1 → at' l b = at' l' b) := Lib.hid (fun b hb => by
                      rcases (show b < j ∨ b = j by omega) with h | rfl
                      · exact HZ.out b h
                      · rw [← HXE.out, ← HYE.out])
                    go_wp2
                    go_quiet (fail)
                    go_wp2
                    have hjn := HJN.out
                    go_roundw
                    case rel => exact ⟨j + 1, by go_num, by omega, HNX, Lib.hid (below_drn HG.out _)⟩
                    case measure => simp [intOf]; omega
                  · have HX : Hid (¬ D = E) := Lib.hid (HNE.out (fun k => hxy (by rw [HXE.out, HYE.out, k])))
                    have t1 : (x == y) = false := by simpa using hxy
                    have t2 : (x != y) = true := by simpa using hxy
                    clear hxy
                    go_wp2
                    go_quiet (fail)
                    go_wp2
                    go_ret
                    exact ⟨_, rfl, not_iff_false HX.out, below_drn (grows B1.out (grows HB.out HG.out)) _⟩
                · have hjn' : ¬ (j : Int) < (X : Int) := by omega
                  have HNX : Hid (∀ a, a < i + 1 → D.nx[a]? = E.nx[a]?) := Lib.hid (fun a ha => by
                    rcases (show a < i ∨ a = i by omega) with h | rfl
                    · exact HA.out a h
                    · rw [HL.out, HL'.out, at_ext (by rw [← HXL.out, HXL'.out]) (fun b hb => HZ.out b (by have := HXL.out; omega))])
                  clear hjn hj
                  go_wp2
                  have hin := HIN.out
                  go_roundw
                  case rel => exact ⟨i + 1, by go_num, by omega, HNX, Lib.hid (grows HB.out HG.out)⟩
                  case measure => simp [intOf]; omega
            · have HX : Hid (¬ D = E) := Lib.hid (HNE.out (fun k => hxx (by rw [HXL.out, HXL'.out, k])))
              go_wp2
              go_quiet (fail)
              go_wp2
              go_ret
              exact ⟨_, rfl, not_iff_false HX.out, below_drn HBW.out _⟩
          · have hin' : ¬ (i : Int) < (K : Int) := by omega
            have HNX : Hid (D.nx = E.nx) := Lib.hid (rows_eq (by rw [← HK.out, HK'.out]) (fun a ha => HA.out a (by have := HK.out; omega)))
            clear hin hi
            go_wp2
            clear d1 d2 d3 d4
            go_loopw [7] (fun s7 wz => ∃ i : Nat, s7 = .int .i64 (i : Int) ∧ i ≤ M ∧ Hid (∀ a, a < i → at' D.ru a = at' E.ru a) ∧ Hid (Below w1.heap.size w1 wz)) (fun s7 _ => M - (intOf s7).toNat)
            case atStart => exact ⟨0, rfl, by omega, Lib.hid (fun a ha => absurd ha (by omega)), HB⟩
            case round =>
              clear HB HA
              obtain ⟨i, rfl, hi, HA, HB⟩ := hrel
              obtain ⟨d1, d2, d3, d4⟩ := HC.out wr HB.out
              by_cases hin : i < M
              · have hin' : (i : Int) < (M : Int) := by omega
                have hi0 : (0 : Int) ≤ (i : Int) := by omega
                have HIN := Lib.hid hin
                have HBW := Lib.hid (grows B1.out HB.out)
                obtain ⟨b3, o3, rfl, _, hce⟩ := (H.out.r.below HBW.out) i (by rw [← HM.out]; exact hin)
                obtain ⟨b4, o4, rfl, _, hce'⟩ := (H'.out.r.below HBW.out) i (by rw [← HM'.out]; exact hin)
                obtain ⟨x, hx⟩ : ∃ x, x = at' D.ru i := ⟨_, rfl⟩
                obtain ⟨y, hy⟩ : ∃ y, y = at' E.ru i := ⟨_, rfl⟩
                rw [← hx] at hce
                rw [← hy] at hce'
                have HXE := Lib.hid hx
                have HYE := Lib.hid hy
                clear hx hy hin
                by_cases hxy : x = y
                · subst hxy
                  have HN : Hid (∀ a, a < i + 1 → at' D.ru a = at' E.ru a) := Lib.hid (fun b hb => by
                    rcases (show b < i ∨ b = i by omega) with h | rfl
                    · exact HA.out b h
                    · rw [← HXE.out, ← HYE.out])
                  go_wp2
                  go_quiet (fail)
                  go_wp2
                  have hin := HIN.out
                  go_roundw
                  case rel => exact ⟨i + 1, by go_num, by omega, HN, Lib.hid (below_drn HB.out _)⟩
                  case measure => simp [intOf]; omega
                · have HX : Hid (¬ D = E) := Lib.hid (fun k => hxy (by rw [HXE.out, HYE.out, k]))
                  have t1 : (x == y) = false := by simpa using hxy
                  have t2 : (x != y) = true := by simpa using hxy
                  clear hxy
                  go_wp2
                  go_quiet (fail)
                  go_wp2
                  go_ret
                  exact ⟨_, rfl, not_iff_false HX.out, below_drn HBW.out _⟩
              · have hin' : ¬ (i : Int) < (M : Int) := by omega
                have HY : Hid (D = E) := Lib.hid (df_ext HNX.out HCL.out (at_ext (by rw [← HM.out, HM'.out]) (fun a ha => HA.out a (by have := HM.out; omega))))
                clear hin hi
                go_wp2
                go_ret
                exact ⟨_, rfl, is_iff_true HY.out, grows B1.out HB.out⟩
      · have HX : Hid (¬ D = E) := Lib.hid (fun k => h2 (by rw [HM.out, HM'.out, k]))
        go_enter Try.func21, Try.ntmps21
        go_upto_region 1 with fail
        rw [← hw1]
        clear hw1
        go_wp2
        go_ret
        exact ⟨_, rfl, not_iff_false HX.out, B1.out⟩
    · have HX : Hid (¬ D = E) := Lib.hid (fun k => h1 (by rw [HK.out, HK'.out, k]))
      go_enter Try.func21, Try.ntmps21
      go_upto_region 1 with fail
      rw [← hw1]
      clear hw1
      go_wp2
      go_ret
      exact ⟨_, rfl, not_iff_false HX.out, B1.out⟩
end Go.Proofs.Ytfipagndpoahlaa.Uj
