/-
  Same of layer 18, with slices.Equal and slices.EqualFunc.
  Conditions: none but the automata's cells.
-/
import Derived.Test.YtfipagndpoahlaaUj
namespace Go.Proofs.Ytfipagndpoahlaa.Uk
open Go.RowKit Go.PlainAid Go.Proofs.Ytfipagndpoahlaa.Bw Go.Proofs.Ytfipagndpoahlaa.Na Go.Proofs.Ytfipagndpoahlaa.Ko Go.Proofs.Ytfipagndpoahlaa.Ua Go.Proofs.Ytfipagndpoahlaa.Ub Go.Proofs.Ytfipagndpoahlaa.Uc Go.Proofs.Ytfipagndpoahlaa.Ud Go.Proofs.Ytfipagndpoahlaa.Ue Go.Proofs.Ytfipagndpoahlaa.Uf Go.Proofs.Ytfipagndpoahlaa.Ui Go.Proofs.Ytfipagndpoahlaa.Uj

set_option maxHeartbeats 1000000 in
set_option maxRecDepth 100000 in
theorem Equal_any {w : World} {A A' : Option Addr} {c c' : Nat} {l l' : List Int} (hl : l.length ≤ 9223372036854775807) (H : Hid (row w A l.length (at' l))) (H' : Hid (row w A' l'.length (at' l'))) :
    Calls Try.prog 30 #[.slice A l.length c, .slice A' l'.length c'] w fun e w' => ansB (l = l') w e w' := by
  obtain ⟨X, hX⟩ : ∃ X, X = l.length := ⟨_, rfl⟩
  obtain ⟨X', hX'⟩ : ∃ X', X' = l'.length := ⟨_, rfl⟩
  have HX := Lib.hid hX
  have HX' := Lib.hid hX'
  rw [← hX] at hl ⊢
  rw [← hX']
  clear hX hX'
  by_cases hxx : X = X'
  · subst hxx
    go_enter Try.func30, Try.ntmps30
    go_wp2
    go_loopw [13, 5] (fun s13 _ wr => ∃ j : Nat, s13 = .int .i64 (j : Int) ∧ j ≤ X ∧ Hid (∀ b, b < j → at' l b = at' l' b) ∧ Hid (Below w.heap.size w wr)) (fun s13 _ _ => X - (intOf s13).toNat)
    case atStart => exact ⟨0, rfl, by omega, Lib.hid (fun b hb => absurd hb (by omega)), Lib.hid (Below.refl _ _)⟩
    case round =>
      obtain ⟨j, rfl, hj, HZ, HG⟩ := hrel
      by_cases hjn : j < X
      · have hjn' : (j : Int) < (X : Int) := by omega
        have hj0 : (0 : Int) ≤ (j : Int) := by omega
        have HJN := Lib.hid hjn
        obtain ⟨b3, o3, rfl, _, hce⟩ := (H.out.below HG.out) j (by rw [← HX.out]; exact hjn)
        obtain ⟨b4, o4, rfl, _, hce'⟩ := (H'.out.below HG.out) j (by rw [← HX'.out]; exact hjn)
        obtain ⟨x, hx⟩ : ∃ x, x = at' l j := ⟨_, rfl⟩
        obtain ⟨y, hy⟩ : ∃ y, y = at' l' j := ⟨_, rfl⟩
        rw [← hx] at hce
        rw [← hy] at hce'
        have HXE := Lib.hid hx
        have HYE := Lib.hid hy
        clear hx hy hjn
        by_cases hxy : x = y
        · subst hxy
          have HNX : Hid (∀ b, b < j + 1 → at' l b = at' l' b) := Lib.hid (fun b hb => by
            rcases (show b < j ∨ b = j by omega) with h | rfl
            · exact HZ.out b h
            · rw [← HXE.out, ← HYE.out])
          go_wp2
          go_quiet (fail)
          go_wp2
          have hjn := HJN.out
          go_roundw
          case rel => exact ⟨j + 1, by go_num, by omega, HNX, Lib.hid (below_drn HG.out _)⟩
          case measure => simp [intOf]; omega
        · have HN : Hid (¬ l = l') := Lib.hid (fun k => hxy (by rw [HXE.out, HYE.out, k]))
          have t1 : (x == y) = false := by simpa using hxy
          have t2 : (x != y) = true := by simpa using hxy
          clear hxy
          go_wp2
          go_quiet (fail)
          go_wp2
          go_ret
          exact ⟨_, rfl, not_iff_false HN.out, below_drn HG.out _⟩
      · have hjn' : ¬ (j : Int) < (X : Int) := by omega
        have HY : Hid (l = l') := Lib.hid (at_ext (by rw [← HX.out, HX'.out]) (fun b hb => HZ.out b (by have := HX.out; omega)))
        clear hjn hj
        go_wp2
        go_ret
        exact ⟨_, rfl, is_iff_true HY.out, HG.out⟩
  · have HN : Hid (¬ l = l') := Lib.hid (fun k => hxx (by rw [HX.out, HX'.out, k]))
    go_enter Try.func30, Try.ntmps30
    go_wp2
    go_ret
    exact ⟨_, rfl, not_iff_false HN.out, Below.refl _ _⟩
set_option maxHeartbeats 1000000 in
set_option maxRecDepth 100000 in
theorem EqualFunc_any {w : World} {A A' : Option Addr} {c c' : Nat} {E E' : List (List Int)} (hl : E.length ≤ 9223372036854775807) (H : Hid (irs w A E)) (H' : Hid (irs w A' E')) :
    Calls Try.prog 31 #[.slice A E.length c, .slice A' E'.length c', .func (.func 30) #[] #[]] w fun e w' => ansB (E = E') w e w' := by
  obtain ⟨X, hX⟩ : ∃ X, X = E.length := ⟨_, rfl⟩
  obtain ⟨X', hX'⟩ : ∃ X', X' = E'.length := ⟨_, rfl⟩
  have HX := Lib.hid hX
  have HX' := Lib.hid hX'
  rw [← hX] at hl ⊢
  rw [← hX']
  clear hX hX'
  by_cases hxx : X = X'
  · subst hxx
    go_enter Try.func31, Try.ntmps31
    go_wp2
    go_loopw [17, 7, 8, 9] (fun s17 _ _ _ wr => ∃ i : Nat, s17 = .int .i64 (i : Int) ∧ i ≤ X ∧ Hid (∀ a, a < i → E[a]? = E'[a]?) ∧ Hid (Below w.heap.size w wr)) (fun s17 _ _ _ _ => X - (intOf s17).toNat)
    case atStart => exact ⟨0, rfl, by omega, Lib.hid (fun b hb => absurd hb (by omega)), Lib.hid (Below.refl _ _)⟩
    case round =>
      obtain ⟨i, rfl, hi, HA, HB⟩ := hrel
      by_cases hin : i < X
      · have hin' : (i : Int) < (X : Int) := by omega
        have hi0 : (0 : Int) ≤ (i : Int) := by omega
        have HIN := Lib.hid hin
        obtain ⟨l, hl'⟩ : ∃ l, E[i]? = some l := ⟨_, List.getElem?_eq_getElem (by rw [← HX.out]; exact hin)⟩
        obtain ⟨m, hm'⟩ : ∃ m, E'[i]? = some m := ⟨_, List.getElem?_eq_getElem (by rw [← HX'.out]; exact hin)⟩
        obtain ⟨b1, o1, rfl, hb1, B, d, hrw, _, hlm, hr⟩ := (H.out.below HB.out) i l hl'
        obtain ⟨b1', o1', rfl, hb1', B', d', hrw', _, _, hr'⟩ := (H'.out.below HB.out) i m hm'
        have HL := Lib.hid hl'
        have HM := Lib.hid hm'
        have HEQ := Lib.hid (Equal_any (c := d) (c' := d') hlm (Lib.hid hr) (Lib.hid hr'))
        obtain ⟨Y, hY⟩ : ∃ Y, Y = l.length := ⟨_, rfl⟩
        obtain ⟨Y', hY'⟩ : ∃ Y', Y' = m.length := ⟨_, rfl⟩
        rw [← hY] at hrw HEQ
        rw [← hY'] at hrw' HEQ
        clear hl' hm' hr hr' hY hY' hin hb1 hb1' hlm
        by_cases hlm : l = m
        · have HLM := Lib.hid hlm
          have HNX : Hid (∀ a, a < i + 1 → E[a]? = E'[a]?) := Lib.hid (fun a ha => by
            rcases (show a < i ∨ a = i by omega) with h | rfl
            · exact HA.out a h
            · rw [HL.out, HM.out, HLM.out])
          clear hlm
          go_wp2_with (go_at_call 30; refine HEQ.out.mono ?_; rintro e w2 h2; obtain ⟨rfl, k2⟩ := h2.yes HLM.out; have K2 := Lib.hid (grows HB.out k2); clear h2 k2)
          have hin := HIN.out
          go_roundw
          case rel => exact ⟨i + 1, by go_num, by omega, HNX, K2⟩
          case measure => simp [intOf]; omega
        · have HLM := Lib.hid hlm
          have HN : Hid (¬ E = E') := Lib.hid (fun k => by rw [k, HM.out] at HL; exact HLM.out (Option.some.inj HL.out).symm)
          clear hlm
          go_wp2_with (go_at_call 30; refine HEQ.out.mono ?_; rintro e w2 h2; obtain ⟨rfl, k2⟩ := h2.no HLM.out; have K2 := Lib.hid (grows HB.out k2); clear h2 k2)
          go_ret
          exact ⟨_, rfl, not_iff_false HN.out, K2.out⟩
      · have hin' : ¬ (i : Int) < (X : Int) := by omega
        have HY : Hid (E = E') := Lib.hid (rows_eq (by rw [← HX.out, HX'.out]) (fun a ha => HA.out a (by have := HX.out; omega)))
        clear hin hi
        go_wp2
        go_ret
        exact ⟨_, rfl, is_iff_true HY.out, HB.out⟩
  · have HN : Hid (¬ E = E') := Lib.hid (fun k => hxx (by rw [HX.out, HX'.out, k]))
    go_enter Try.func31, Try.ntmps31
    go_wp2
    go_ret
    exact ⟨_, rfl, not_iff_false HN.out, Below.refl _ _⟩
set_option maxHeartbeats 4000000 in
set_option maxRecDepth 100000 in
theorem Same_any {w : World} {V V' : Array Value} {D E : Df} (H : Hid (dfa w V D)) (H' : Hid (dfa w V' E)) :
    Calls Try.prog 20 #[.agg V, .agg V'] w fun e w' => ansB (D = E) w e w' := by
  obtain ⟨A1, c1, A2, c2, H⟩ := H.out
  obtain ⟨A1', c1', A2', c2', H'⟩ := H'.out
  have H := Lib.hid H
  have H' := Lib.hid H'
  obtain ⟨w1, hw1⟩ : ∃ w1, w1 = (w.alloc (.cells V 26)).alloc (.cells V' 26) := ⟨_, rfl⟩
  obtain ⟨ka, kb, bb⟩ := two_blk w 26 26 V V'
  rw [← hw1] at ka kb bb
  have KA := Lib.hid ka
  have KB := Lib.hid kb
  have B1 := Lib.hid bb
  have HQ : Hid (∀ u, Below w1.heap.size w1 u → Calls Try.prog 30 #[.slice A2 D.ru.length c2, .slice A2' E.ru.length c2'] u fun e w' => ansB (D.ru = E.ru) u e w') := Lib.hid (fun u k => Equal_any H.out.m (Lib.hid (H.out.r.below (grows B1.out k))) (Lib.hid (H'.out.r.below (grows B1.out k))))
  have HF : Hid (∀ u, Below w1.heap.size w1 u → Calls Try.prog 31 #[.slice A1 D.nx.length c1, .slice A1' E.nx.length c1', .func (.func 30) #[] #[]] u fun e w' => ansB (D.nx = E.nx) u e w') := Lib.hid (fun u k => EqualFunc_any H.out.k (Lib.hid (H.out.n.below (grows B1.out k))) (Lib.hid (H'.out.n.below (grows B1.out k))))
  obtain ⟨K, hK⟩ : ∃ K, K = D.nx.length := ⟨_, rfl⟩
  obtain ⟨M, hM⟩ : ∃ M, M = D.ru.length := ⟨_, rfl⟩
  obtain ⟨K', hK'⟩ : ∃ K', K' = E.nx.length := ⟨_, rfl⟩
  obtain ⟨M', hM'⟩ : ∃ M', M' = E.ru.length := ⟨_, rfl⟩
  have HC : Hid (∀ u, Below w1.heap.size w1 u → u.cell? ⟨w.heap.size, 256, none⟩ = some (.slice A1 K c1) ∧ u.cell? ⟨w.heap.size, 257, none⟩ = some (.slice A2 M c2) ∧ u.cell? ⟨w.heap.size + 1, 256, none⟩ = some (.slice A1' K' c1') ∧ u.cell? ⟨w.heap.size + 1, 257, none⟩ = some (.slice A2' M' c2')) := Lib.hid (fun u k => ⟨((KA.out.below k).cell 256).trans (by rw [hK]; exact H.out.vn), ((KA.out.below k).cell 257).trans (by rw [hM]; exact H.out.vr), ((KB.out.below k).cell 256).trans (by rw [hK']; exact H'.out.vn), ((KB.out.below k).cell 257).trans (by rw [hM']; exact H'.out.vr)⟩)
  obtain ⟨d1, d2, d3, d4⟩ := HC.out w1 (Below.refl _ _)
  rw [← hM, ← hM'] at HQ
  rw [← hK, ← hK'] at HF
  obtain ⟨N, hN, hsz⟩ := size_cls
  have hN0 : ¬ N = 0 := by omega
  have hl1 := load_cls H.out (g := w.heap.size) hN
  have hl2 := load_cls H'.out (g := w.heap.size + 1) hN
  obtain ⟨F, hF⟩ : ∃ F, F = arr 256 (at' D.cl) := ⟨_, rfl⟩
  obtain ⟨G, hG⟩ : ∃ G, G = arr 256 (at' E.cl) := ⟨_, rfl⟩
  obtain ⟨b, hbq⟩ : ∃ b, b = same256 (at' D.cl) (at' E.cl) := ⟨_, rfl⟩
  have heq : ∀ u, (Op.equalIn 10000 22 (.agg F) (.agg G)).run Try.prog u = .ok b u := fun u => by rw [hF, hG, hbq]; exact eq_arr _ _ u
  have HBQ : Hid (b = true ↔ D.cl = E.cl) := Lib.hid (by rw [hbq]; exact same_iff H.out.c H'.out.c)
  rw [← hF] at hl1
  rw [← hG] at hl2
  clear hK hM hK' hM' hF hG hbq hN bb
  cases b
  · have HX : Hid (¬ D = E) := Lib.hid (fun k => by have := HBQ.out.2 (by rw [k]); cases this)
    go_enter Try.func20, Try.ntmps20
    go_upto_region 1 with fail
    rw [← hw1]
    clear hw1
    go_wp2
    go_ret
    exact ⟨_, rfl, not_iff_false HX.out, B1.out⟩
  · have HCL : Hid (D.cl = E.cl) := Lib.hid (HBQ.out.1 rfl)
    by_cases h1 : D.ru = E.ru
    · have H1 := Lib.hid h1
      by_cases h2 : D.nx = E.nx
      · have H2 := Lib.hid h2
        have HX : Hid (D = E) := Lib.hid (df_ext h2 HCL.out h1)
        clear h1 h2
        go_enter Try.func20, Try.ntmps20
        go_upto_region 1 with fail
        rw [← hw1]
        clear hw1
        go_wp2_with (first | (go_at_call 30; refine (HQ.out _ (Below.refl _ _)).mono ?_; rintro e w2 h2; obtain ⟨rfl, k2⟩ := h2.yes H1.out; have K2 := Lib.hid k2; clear d1 d2 d3 d4; obtain ⟨d1, d2, d3, d4⟩ := HC.out _ k2; clear h2 k2) | (go_at_call 31; refine (HF.out _ K2.out).mono ?_; rintro e w3 h3; obtain ⟨rfl, k3⟩ := h3.yes H2.out; have K3 := Lib.hid (grows K2.out k3); clear h3 k3))
        go_ret
        exact ⟨_, rfl, is_iff_true HX.out, grows B1.out K3.out⟩
      · have H2 := Lib.hid h2
        have HX : Hid (¬ D = E) := Lib.hid (fun k => H2.out (by rw [k]))
        clear h1 h2
        go_enter Try.func20, Try.ntmps20
        go_upto_region 1 with fail
        rw [← hw1]
        clear hw1
        go_wp2_with (first | (go_at_call 30; refine (HQ.out _ (Below.refl _ _)).mono ?_; rintro e w2 h2; obtain ⟨rfl, k2⟩ := h2.yes H1.out; have K2 := Lib.hid k2; clear d1 d2 d3 d4; obtain ⟨d1, d2, d3, d4⟩ := HC.out _ k2; clear h2 k2) | (go_at_call 31; refine (HF.out _ K2.out).mono ?_; rintro e w3 h3; obtain ⟨rfl, k3⟩ := h3.no H2.out; have K3 := Lib.hid (grows K2.out k3); clear h3 k3))
        go_ret
        exact ⟨_, rfl, not_iff_false HX.out, grows B1.out K3.out⟩
    · have H1 := Lib.hid h1
      have HX : Hid (¬ D = E) := Lib.hid (fun k => H1.out (by rw [k]))
      clear h1
      go_enter Try.func20, Try.ntmps20
      go_upto_region 1 with fail
      rw [← hw1]
      clear hw1
      go_wp2_with (go_at_call 30; refine (HQ.out _ (Below.refl _ _)).mono ?_; rintro e w2 h2; obtain ⟨rfl, k2⟩ := h2.no H1.out; have K2 := Lib.hid k2; clear h2 k2)
      go_ret
      exact ⟨_, rfl, not_iff_false HX.out, grows B1.out K2.out⟩
end Go.Proofs.Ytfipagndpoahlaa.Uk
