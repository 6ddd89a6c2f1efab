/-
  The reference's dynamic where its three numbers are right: the lengths, or what is wrong.
  Conditions: a string of at most 2^48 bytes, a place within it.
-/
import Derived.Test.YtgbdecnaamlekaaDoorQMg
import Derived.StillTailTactics
namespace Go.Proofs.YtgbdecnaamlekaaDoor.Mh
open Go.RowKit Go.Proofs.YtgbdecnaamlekaaDoor.Vm Go.Proofs.YtgbdecnaamlekaaDoor.Vo Go.Proofs.YtgbdecnaamlekaaDoor.Bm Go.Proofs.YtgbdecnaamlekaaDoor.Bt Go.Proofs.YtgbdecnaamlekaaDoor.Bw Go.Proofs.YtgbdecnaamlekaaDoor.Bp Go.Proofs.YtgbdecnaamlekaaDoor.Bs Go.Proofs.YtgbdecnaamlekaaDoor.Bv Go.Proofs.YtgbdecnaamlekaaDoor.Bx Go.Proofs.YtgbdecnaamlekaaDoor.Na Go.Proofs.YtgbdecnaamlekaaDoor.Nf Go.Proofs.YtgbdecnaamlekaaDoor.Nm Go.Proofs.YtgbdecnaamlekaaDoor.Ni Go.Proofs.YtgbdecnaamlekaaDoor.Ne Go.Proofs.YtgbdecnaamlekaaDoor.Nh Go.Proofs.YtgbdecnaamlekaaDoor.Pm Go.Proofs.YtgbdecnaamlekaaDoor.Pw Go.Proofs.YtgbdecnaamlekaaDoor.Pi Go.Proofs.YtgbdecnaamlekaaDoor.Ko Go.Proofs.YtgbdecnaamlekaaDoor.Ka Go.Proofs.YtgbdecnaamlekaaDoor.Kb Go.Proofs.YtgbdecnaamlekaaDoor.Km Go.Proofs.YtgbdecnaamlekaaDoor.Kw Go.Proofs.YtgbdecnaamlekaaDoor.Ks Go.Proofs.YtgbdecnaamlekaaDoor.Kc Go.Proofs.YtgbdecnaamlekaaDoor.Kd Go.Proofs.YtgbdecnaamlekaaDoor.Ke Go.Proofs.YtgbdecnaamlekaaDoor.Ky Go.Proofs.YtgbdecnaamlekaaDoor.Kx Go.Proofs.YtgbdecnaamlekaaDoor.Ku Go.Proofs.YtgbdecnaamlekaaDoor.Kh Go.Proofs.YtgbdecnaamlekaaDoor.Be Go.Proofs.YtgbdecnaamlekaaDoor.Ki Go.Proofs.YtgbdecnaamlekaaDoor.Kl Go.Proofs.YtgbdecnaamlekaaDoor.Kn Go.Proofs.YtgbdecnaamlekaaDoor.Ma Go.Proofs.YtgbdecnaamlekaaDoor.Kp Go.Proofs.YtgbdecnaamlekaaDoor.Br Go.Proofs.YtgbdecnaamlekaaDoor.Bq Go.Proofs.YtgbdecnaamlekaaDoor.Pr Go.Proofs.YtgbdecnaamlekaaDoor.Me Go.Proofs.YtgbdecnaamlekaaDoor.Mf Go.Proofs.YtgbdecnaamlekaaDoor.Mg Go.Proofs.YtgbdecnaamlekaaDoor.Kz

theorem news_of_row {w : World} {b off m : Nat} {f : Nat → Int} (h : row w (some ⟨b, off, none⟩) m f) : ∀ j u, (Is (upto m f))[j]? = some u → w.cell? ((⟨b, off, none⟩ : Addr).add j) = some u := by
  intro j u hj
  rw [Is_get] at hj
  have hjm : j < m := by
    rcases Nat.lt_or_ge j m with h1 | h1
    · exact h1
    · rw [List.getElem?_eq_none (by rw [upto_length]; exact h1)] at hj; cases hj
  rw [upto_get f hjm] at hj
  obtain ⟨b', off', e0, _, hc⟩ := h j hjm
  injection e0 with e0
  injection e0 with e1 e2 _
  subst e1; subst e2
  have e3 : ((⟨b, off, none⟩ : Addr).add j) = ⟨b, off + j, none⟩ := by simp [Addr.add]
  rw [e3, hc]
  exact hj
theorem row_only {S : Nat → Prop} {w w' : World} {b off m : Nat} {f : Nat → Int} (h : row w (some ⟨b, off, none⟩) m f) (o : Only S w w') (hb : ¬ S b) : row w' (some ⟨b, off, none⟩) m f := fun i hi => by
  obtain ⟨b', off', e, hl, hc⟩ := h i hi
  injection e with e
  injection e with e1 e2 _
  subst e1; subst e2
  refine ⟨b, off, rfl, Nat.lt_of_lt_of_le hl o.size, ?_⟩
  have hk := o.block b hl hb
  unfold World.cell? at hc ⊢
  simp only [hk]
  exact hc
theorem ints_upto_row {w : World} {base m cap : Nat} {A : Option Addr} {f : Nat → Int} (h : ints w base 3 (.slice A m cap) (upto m f)) : row w A m f := by
  have r := ints.row h
  rw [upto_length] at r
  exact r.congr (fun i hi => at_upto f hi)
/-- A copy of a part of a row: what an append to nothing leaves. -/
theorem ints_copy {w : World} {base m cap : Nat} {A : Option Addr} {f : Nat → Int} (h : w.ownsRow base 3 1 (.slice A (0 + m) cap) (0 + m) ([] ++ Is (upto m f))) : ints w base 3 (.slice A m cap) (upto m f) := by
  unfold ints
  rw [upto_length]
  rw [Nat.zero_add] at h
  exact h

section
variable {w : World} {g : Nat} {s : ByteArray} {a : Nat}
set_option maxHeartbeats 8000000 in
set_option maxRecDepth 100000 in
theorem rdyn_more (fb : Bool) (k : Nat) (h : rr w g s a) (hs : s.size ≤ 281474976710656) (ha : a ≤ 8 * s.size) (hl : ¬ 8 * s.size - a < 14) (hbg : ¬ (29 < peekN (num s.data.toList) a 5 ∨ 29 < peekN (num s.data.toList) (a + 5) 5)) :
    Calls Tryd.prog 59 #[.pointer (some ⟨g, 0, none⟩), hv fb (k : Int) 0 (.slice none 0 0) (.slice none 0 0)] w (rDyn g s a fb k w) := by
  unfold rDyn
  obtain ⟨w1, hw1⟩ : ∃ w1, w1 = (w.alloc (.cells #[.bool fb, .int .i64 (k : Int), .int .i64 0, .slice none 0 0, .slice none 0 0] 36)).alloc (.cells z5 36) := ⟨_, rfl⟩
  have b1 : Below w.heap.size w w1 := by rw [hw1]; exact grows (below_alloc _ _) (below_alloc _ _)
  have kX : Blk w1 w.heap.size 36 #[.bool fb, .int .i64 (k : Int), .int .i64 0, .slice none 0 0, .slice none 0 0] := by rw [hw1]; exact (Blk.fresh w _ _).below (below_alloc _ _)
  have kY : Blk w1 (w.heap.size + 1) 36 z5 := by
    have := Blk.fresh (w.alloc (.cells #[.bool fb, .int .i64 (k : Int), .int .i64 0, .slice none 0 0, .slice none 0 0] 36)) 36 z5
    rw [size_alloc] at this
    rw [hw1]; exact this
  have hgl : g < w.heap.size := h.lt
  have HG := Lib.hid hgl
  have H1 : Hid (rr w1 g s a) := Lib.hid (h.below b1)
  have HX : Hid (∀ u, Only (At g) w1 u → Blk u w.heap.size 36 #[.bool fb, .int .i64 (k : Int), .int .i64 0, .slice none 0 0, .slice none 0 0]) := Lib.hid (fun u o => kX.only o (fun e => by have : w.heap.size = g := e; omega))
  have HY : Hid (∀ u, Only (At g) w1 u → Blk u (w.heap.size + 1) 36 z5) := Lib.hid (fun u o => kY.only o (fun e => by have : w.heap.size + 1 = g := e; omega))
  have HO : Hid (∀ u, Only (At g) w1 u → Only (At g) w u) := Lib.hid (fun u o => (Only.of_below b1).trans o)
  have HS := Lib.hid hs
  obtain ⟨M, hM⟩ : ∃ M, M = 8 * s.size := ⟨_, rfl⟩
  have HM := Lib.hid hM
  obtain ⟨N, hN⟩ : ∃ N, N = num s.data.toList := ⟨_, rfl⟩
  have HN := Lib.hid hN
  rw [← hM] at ha hl
  rw [← hM, ← hN]
  rw [← hN] at hbg
  obtain ⟨x, hx⟩ : ∃ x, x = peekN N a 5 := ⟨_, rfl⟩
  obtain ⟨y, hy⟩ : ∃ y, y = peekN N (a + 5) 5 := ⟨_, rfl⟩
  obtain ⟨u, hu⟩ : ∃ u, u = peekN N (a + 10) 4 := ⟨_, rfl⟩
  have hx29 : x < 32 := by rw [hx]; exact peekN_lt _ _ _
  have hy29 : y < 32 := by rw [hy]; exact peekN_lt _ _ _
  have hu16 : u < 16 := by rw [hu]; exact peekN_lt _ _ _
  have HXv := Lib.hid hx
  have HYv := Lib.hid hy
  have HUv := Lib.hid hu
  rw [← hx, ← hy] at hbg
  obtain ⟨X, hX⟩ : ∃ X, X = x + 257 := ⟨_, rfl⟩
  obtain ⟨D, hD⟩ : ∃ D, D = y + 1 := ⟨_, rfl⟩
  have hX1 : X ≤ 286 := by omega
  have hX2 : 257 ≤ X := by omega
  have hD1 : 1 ≤ D := by omega
  have hD2 : D ≤ 30 := by omega
  obtain ⟨DM, hDM⟩ : ∃ DM, DM = dynM N M a := ⟨_, rfl⟩
  have HD0 : Hid (DM = (if M - (a + 14) < 3 * (u + 4) then (2, ([], []), 0)
      else if fit 19 (clI N (a + 14) (u + 4)) false ≠ 0 then (fit 19 (clI N (a + 14) (u + 4)) false, ([], []), 0)
      else
        let r := seqM (L 19 (clI N (a + 14) (u + 4))) N M (X + D) (a + 14 + 3 * (u + 4)) []
        if r.1 ≠ 0 then (r.1, ([], []), 0)
        else if fitsM (r.2.1.take X) (r.2.1.drop X) ≠ 0 then (fitsM (r.2.1.take X) (r.2.1.drop X), ([], []), 0)
        else (0, (r.2.1.take X, r.2.1.drop X), r.2.2))) := Lib.hid (by
    rw [hDM]; unfold dynM; rw [if_neg hl, if_neg (by rw [← hx, ← hy]; exact hbg), ← hx, ← hy, ← hu, hX, hD])
  rw [← hDM]
  have t1 : ¬ (286 : Int) < (x : Int) + 257 := by omega
  have t2 : ¬ (30 : Int) < (y : Int) + 1 := by omega
  have hu16' : u ≤ 15 := by omega
  have eX : (x : Int) + 257 = (X : Int) := by omega
  have eXD : (x : Int) + 257 + (y : Int) + 1 = ((X + D : Nat) : Int) := by omega
  have EX := Lib.hid eX
  have EXD := Lib.hid eXD
  have HB1 := Lib.hid (show a + 5 ≤ M by omega)
  have HB2 := Lib.hid (show a + 5 + 5 ≤ M by omega)
  have HB3 := Lib.hid (show a + 5 + 5 + 4 ≤ M by omega)
  have HB4 : a + 14 ≤ M := by omega
  have hmk : ∀ v : World, (Instr.makeSlice 31 (.int .i64 19) (.int .i64 19)).run Tryd.prog v = .ok (.slice (some ⟨v.heap.size, 0, none⟩) 19 19) (v.alloc (.cells (arr 19 (fun _ => 0)) 3)) := fun v => made 19 (by omega) v
  clear b1 kX kY hgl h hs hM hN hx hy hu hbg hl eX eXD hX hD hDM
  go_enter Tryd.func59, Tryd.ntmps59
  go_wp2_with fail
  rw [← hw1]
  clear hw1
  refine (rBits_has (m := 5) rfl (by omega) H1.out HS.out (by rw [← HM.out]; exact HB1.out)).mono ?_
  rintro e w2 ⟨rfl, r2, o2⟩
  rw [← HN.out, ← HXv.out]
  have R2 := Lib.hid r2; have O2 := Lib.hid o2; clear r2 o2
  go_wp2_with fail
  refine (rBits_has (m := 5) rfl (by omega) R2.out HS.out (by rw [← HM.out]; exact HB2.out)).mono ?_
  rintro e w3 ⟨rfl, r3, o3⟩
  rw [← HN.out, ← HYv.out]
  have R3 := Lib.hid r3; have O3 := Lib.hid (O2.out.trans o3); clear r3 o3
  go_wp2_with fail
  refine (rBits_has (m := 4) rfl (by omega) R3.out HS.out (by rw [← HM.out]; exact HB3.out)).mono ?_
  rintro e w4 ⟨rfl, r4, o4⟩
  rw [← HN.out, ← show u = peekN N (a + 5 + 5) 4 from HUv.out]
  have R4 : Hid (rr w4 g s (a + 14)) := Lib.hid r4
  have O4 := Lib.hid (O3.out.trans o4)
  clear r4 o4
  have HX4 := Lib.hid (HX.out _ O4.out)
  have HY4 := Lib.hid (HY.out _ O4.out)
  have HO4 := Lib.hid (HO.out _ O4.out)
  clear HX HY HO O4 O3 O2 R2 R3 H1
  go_wp2_with fail
  have b5 := below_alloc w4 (.cells (arr 19 (fun _ => 0)) 3)
  have k5 := Blk.fresh w4 3 (arr 19 (fun _ => 0))
  obtain ⟨w5, hw5⟩ : ∃ w5, w5 = w4.alloc (.cells (arr 19 (fun _ => 0)) 3) := ⟨_, rfl⟩
  rw [← hw5] at b5 k5 ⊢
  clear hw5
  refine (order_any w5).mono ?_
  rintro e w6 ⟨rfl, k6, b6⟩
  obtain ⟨gc, hgc⟩ : ∃ gc, gc = w4.heap.size := ⟨_, rfl⟩
  obtain ⟨gO, hgO⟩ : ∃ gO, gO = w5.heap.size := ⟨_, rfl⟩
  have hs5 : w4.heap.size + 1 ≤ w5.heap.size := k5.lt
  have hs4 : w.heap.size + 1 < w4.heap.size := HY4.out.lt
  rw [← hgc] at k5
  rw [← hgO] at k6
  have hgcO : gc ≠ gO := by omega
  have hgcX : w.heap.size ≠ gc := by omega
  have hgcY : w.heap.size + 1 ≠ gc := by omega
  have hgcg : gc ≠ g := by have := HG.out; omega
  have hgOg : gO ≠ g := by have := HG.out; omega
  have hXg : w.heap.size ≠ g := by have := HG.out; omega
  have hYg : w.heap.size + 1 ≠ g := by have := HG.out; omega
  have hwgc : w.heap.size ≤ gc := by omega
  have NE := Lib.hid (And.intro hgcO (And.intro hgcX (And.intro hgcY (And.intro hgcg (And.intro hgOg (And.intro hXg (And.intro hYg hwgc)))))))
  have b46 := grows b5 b6
  have KC : Hid (Blk w6 gc 3 (arr 19 (clI N (a + 14) 0))) := Lib.hid (by
    have h := k5.below b6
    rw [arr_congr (g := clI N (a + 14) 0) (fun i _ => by simp [clI, clM])] at h
    exact h)
  have KO := Lib.hid k6
  have KX := Lib.hid (HX4.out.below b46)
  have KY := Lib.hid (HY4.out.below b46)
  have KR := Lib.hid (R4.out.below b46)
  have KOn := Lib.hid (HO4.out.trans (Only.of_below b46))
  rw [← hgc, ← hgO]
  clear k5 b5 k6 b6 b46 hs5 hs4 hgcO hgcX hgcY hgcg hgOg hXg hYg hwgc HX4 HY4 HO4 R4 hgc hgO hmk
  go_wp2_with fail
  go_loopw [14] (fun s14 wr => ∃ i : Nat, s14 = .int .i64 (i : Int) ∧ i ≤ u + 4 ∧ a + 14 + 3 * i ≤ M ∧ Hid (Blk wr gc 3 (arr 19 (clI N (a + 14) i))) ∧ Hid (Blk wr gO 3 (arr 19 (fun i => (ord i : Int)))) ∧ Hid (rr wr g s (a + 14 + 3 * i)) ∧ Hid (Blk wr w.heap.size 36 #[.bool fb, .int .i64 (k : Int), .int .i64 0, .slice none 0 0, .slice none 0 0]) ∧ Hid (Blk wr (w.heap.size + 1) 36 z5) ∧ Hid (Only (At g) w wr)) (fun s14 _ => u + 4 - (intOf s14).toNat)
  case atStart => exact ⟨0, rfl, by omega, by omega, KC, KO, KR, KX, KY, KOn⟩
  case round =>
    obtain ⟨i, rfl, hi, hiM, LC, LO, LR, LX, LY, LOn⟩ := hrel
    clear KC KO KX KY KR KOn
    by_cases hiu : i < u + 4
    · have hiu' : (i : Int) < (u : Int) + 4 := by omega
      by_cases hsh : M - (a + 14 + 3 * i) < 3
      · have HDS : Hid (DM = (2, ([], []), 0)) := Lib.hid (by rw [HD0.out, if_pos (by omega)])
        go_wp2_with fail
        refine (rBits_short (m := 3) rfl (by omega) LR.out HS.out (by rw [← HM.out]; exact hiM) (by rw [← HM.out]; exact hsh)).mono ?_
        rintro e w7 ⟨rfl, r7, o7⟩
        have R7 := Lib.hid r7
        have On7 := Lib.hid (LOn.out.trans o7)
        have HYr := Lib.hid (LY.out.only o7 NE.out.2.2.2.2.2.2.1)
        clear r7 o7
        have HY9 := Lib.hid (HYr.out)
        go_wp2_with (refine wpList_store_row rfl 36 _ _ rfl (w.heap.size + 1) z5 rfl rfl _ _ HY9.out sizeR rfl (one5 _ _ _ _ _ _ _ _ _) ?_)
        refine bodyPost_ret (v := .tuple #[.agg z5, .int .i64 2]) (results_cell2 rfl _ _ (w.heap.size + 1) 36 z5 _ _ rfl rfl (setRow_heap _ _ _ _ _ _ HY9.out) Tryd.underlying36 rfl sizeR) rfl ?_
        rw [HDS.out]
        exact end_err On7.out (Nat.le_succ _) HG.out R7.out (by decide)
      · obtain ⟨q, hq⟩ : ∃ q, q = peekN N (a + 14 + 3 * i) 3 := ⟨_, rfl⟩
        have HQ := Lib.hid hq
        obtain ⟨o, ho⟩ : ∃ o, o = ord i := ⟨_, rfl⟩
        have hi19 : i < 19 := by omega
        have ho19 : o < 19 := by rw [ho]; exact ord_lt i hi19
        have HOD := Lib.hid ho
        go_wp2_with fail
        refine (rBits_has (m := 3) rfl (by omega) LR.out HS.out (by rw [← HM.out]; omega)).mono ?_
        rintro e w7 ⟨rfl, r7, o7⟩
        rw [← HN.out, ← HQ.out]
        have R7 := Lib.hid r7
        have LC7 := Lib.hid (LC.out.only o7 NE.out.2.2.2.1)
        have LO7 := Lib.hid (LO.out.only o7 NE.out.2.2.2.2.1)
        have LX7 := Lib.hid (LX.out.only o7 NE.out.2.2.2.2.2.1)
        have LY7 := Lib.hid (LY.out.only o7 NE.out.2.2.2.2.2.2.1)
        have On7 := Lib.hid (LOn.out.trans o7)
        have p1 : w7.cell? ⟨gO, i, none⟩ = some (.int .i64 (o : Int)) := by rw [LO7.out.cell, arr_get _ hi19, ← HOD.out]
        have p2 : w7.cell? ⟨gc, o, none⟩ = some (.int .i64 (clI N (a + 14) i o)) := by rw [LC7.out.cell, arr_get _ ho19]
        have f2 := LC7.out.frozen o
        clear r7 o7 ho hq
        go_wp2
        go_roundw
        case rel =>
          obtain ⟨hgcO, hgcX, hgcY, hgcg, _, _, _, hwgc⟩ := NE.out
          refine ⟨i + 1, by go_num, by omega, by omega, Lib.hid ?_, Lib.hid ?_, Lib.hid ?_, Lib.hid ?_, Lib.hid ?_, Lib.hid ?_⟩
          · have h3 := LC7.out.store o (.int .i64 (q : Int))
            rw [arr_set, arr_congr (g := clI N (a + 14) (i + 1)) (fun j _ => by
              unfold clI
              rw [clM, ← HOD.out, ← HQ.out]
              by_cases e : j = o
              · rw [if_pos e, if_pos e]
              · rw [if_neg e, if_neg e])] at h3
            exact h3
          · exact LO7.out.apartStore (fun e => hgcO e.symm)
          · exact Blk.apartStore R7.out (fun e => hgcg e.symm)
          · exact LX7.out.apartStore hgcX
          · exact LY7.out.apartStore hgcY
          · exact On7.out.store (p := ⟨gc, o, none⟩) (.inr hwgc) _
        case measure => simp [intOf]; omega
    · obtain rfl : i = u + 4 := by omega
      have hiu' : ¬ ((u : Int) + 4 < (u : Int) + 4) := by omega
      have HF := Lib.hid (rFits_any (cap := 19) (n := 19) false (by omega) (Lib.hid (row_of_blk LC.out)))
      obtain ⟨er, her⟩ : ∃ er, er = fit 19 (clI N (a + 14) (u + 4)) false := ⟨_, rfl⟩
      rw [← her] at HF
      by_cases he0 : er = 0
      · have hfit := her.symm.trans he0
        have HE := Lib.hid (fit_zero hfit)
        obtain ⟨C, hC⟩ : ∃ C, C = L 19 (clI N (a + 14) (u + 4)) := ⟨_, rfl⟩
        have hC19 : C.length = 19 := by rw [hC, L_length]
        have h15 : ∀ j, nth C j ≤ 15 := fun j => by rw [hC]; exact clI_le _ _ _ j
        obtain ⟨R, hR⟩ : ∃ R, R = seqM C N M (X + D) (a + 14 + 3 * (u + 4)) [] := ⟨_, rfl⟩
        have HDY : Hid (DM = (if R.1 ≠ 0 then (R.1, ([], []), 0)
            else if fitsM (R.2.1.take X) (R.2.1.drop X) ≠ 0 then (fitsM (R.2.1.take X) (R.2.1.drop X), ([], []), 0)
            else (0, (R.2.1.take X, R.2.1.drop X), R.2.2))) := Lib.hid (by
          rw [HD0.out, if_neg (by omega), if_neg (by rw [hfit]; exact fun h => h rfl), ← hC, hR])
        have HRF : Hid (R.1 = 0 → R.2.1.length = X + D) := Lib.hid (fun h0 => by
          rw [hR] at h0 ⊢
          exact (seq_facts h15 _ _ [] (Nat.le_refl _) (by simp) (fun x hx => by cases hx) hiM h0).1)
        have HRW : Hid (∀ v, Below wr.heap.size wr v → Calls Tryd.prog 77 #[.pointer (some ⟨g, 0, none⟩), .slice (some ⟨gc, 0, none⟩) 19 19, .int .i64 ((X + D : Nat) : Int)] v fun e w' =>
            ∃ A m c, e = .returned (.tuple #[.slice A m c, .int .i64 R.1]) ∧ (R.1 = 0 → ints w' v.heap.size 3 (.slice A m c) (ofN R.2.1) ∧ rr w' g s R.2.2) ∧ (∃ a', rr w' g s a') ∧ Only (At g) v w') := Lib.hid (fun v hv => by
          have hh := rrow_any (z := ((X + D : Nat) : Int)) (n := X + D) rfl HE.out (Lib.hid (LC.out.below hv)) (Lib.hid (LR.out.below hv)) HS.out (by rw [← HM.out]; exact hiM) (by omega)
          unfold rrowP at hh
          rw [← HN.out, ← HM.out, ← hC, ← hR] at hh
          exact hh)
        subst he0
        clear her hfit hR hC hC19 h15 HD0
        go_wp2_with fail
        refine HF.out.mono ?_
        rintro e w7 ⟨rfl, b7⟩
        have B7 := Lib.hid b7
        clear b7 HF
        go_wp2_with fail
        rw [EXD.out]
        refine (HRW.out w7 B7.out).mono ?_
        rintro e w8 ⟨A8, m8, c8, rfl, i8, ⟨a8, r8⟩, o8⟩
        have R8 := Lib.hid r8
        have On8 := Lib.hid ((LOn.out.trans (Only.of_below B7.out)).trans o8)
        have LX8 := Lib.hid ((LX.out.below B7.out).only o8 NE.out.2.2.2.2.2.1)
        have LY8 := Lib.hid ((LY.out.below B7.out).only o8 NE.out.2.2.2.2.2.2.1)
        have I8 := Lib.hid i8
        have HWY : Hid (w.heap.size + 1 < w7.heap.size) := Lib.hid (Nat.lt_of_lt_of_le LY.out.lt B7.out.size)
        clear r8 o8 i8 HRW LC LO LR LX LY
        obtain ⟨x1, hx1⟩ : ∃ x1, x1 = R.1 := ⟨_, rfl⟩
        rw [← hx1]
        by_cases hx10 : x1 = 0
        · obtain ⟨s8, rr8⟩ := I8.out (hx1.symm.trans hx10)
          have hlen := HRF.out (hx1.symm.trans hx10)
          have hm8 : m8 = X + D := by
            obtain ⟨A', c', e⟩ := ints.form s8
            rw [ofN_length, hlen] at e
            injection e
          subst hm8
          have hrow := ints_row' s8 hlen
          obtain ⟨b, off0, hA8, hb8, _⟩ := hrow 0 (by omega)
          have hoff : off0 = 0 := by
            rcases s8.2 with ⟨e0, h0⟩ | ⟨b', cap', _, e1, _⟩
            · rw [ofN_length, hlen] at h0; omega
            · injection e1 with e1 _ _
              rw [hA8] at e1
              injection e1 with e1
              injection e1
          subst hoff
          subst hA8
          have hc8 : X + D ≤ c8 := by
            obtain ⟨_, cc, e, hle⟩ := ints.le s8
            injection e with _ _ e
            rw [ofN_length, hlen] at hle
            omega
          have row1 : Hid (row w8 (some ⟨b, 0, none⟩) X (ix R.2.1)) := Lib.hid (fun i hi => hrow i (by omega))
          have row2 : Hid (row w8 (some ⟨b, X, none⟩) D (fun i => ix R.2.1 (X + i))) := Lib.hid (fun i hi => by
            obtain ⟨b', off, e, hb, hcell⟩ := hrow (X + i) (by omega)
            injection e with e
            injection e with e1 e2 _
            subst e1; subst e2
            exact ⟨b, X, rfl, hb, by rw [Nat.zero_add] at hcell; exact hcell⟩)
          have FP := Lib.hid (fitsI_parts (l := R.2.1) (X := X) (D := D) hlen.symm (by omega))
          have UP := Lib.hid (upto_parts (l := R.2.1) (X := X) (D := D) hlen.symm)
          have RR8 := Lib.hid rr8
          have HX1 := Lib.hid (hx1.symm.trans hx10)
          subst hx10
          have HBX : Hid (b ≠ w.heap.size) := Lib.hid (fun e => by
            have h1 := (s8.lo b rfl).1
            have h2 := NE.out.2.2.2.2.2.2.2
            have h3 := LY8.out.lt
            have h4 := HWY.out
            omega)
          have HW8 : Hid (w.heap.size + 1 < w8.heap.size) := Lib.hid LY8.out.lt
          clear hx1 hlen hrow s8 rr8 hb8 I8 HRF
          have cX3 := LX8.out.cell 3
          obtain ⟨i0, hi0, hz0, hz1, hz2⟩ := info_parts infoI
          have hX0 : 0 < X := by omega
          have hXm : 0 + X ≤ maxLen := by unfold maxLen; omega
          have hXb : (0 + X) * 8 ≤ 140737488355328 := by omega
          have hDm : 0 + D ≤ maxLen := by unfold maxLen; omega
          have hDb : (0 + D) * 8 ≤ 140737488355328 := by omega
          have hXc : (X : Int) ≤ (c8 : Int) := by omega
          have hXn : (X : Int) ≤ (X : Int) + (D : Int) := by omega
          have hXne : c8 ≠ X := by omega
          have eW : IntKind.i64.wrap (X : Int) = (X : Int) := i64_at _ X rfl (by omega)
          have eX := EX.out
          clear hc8
          go_wp2_with fail
          go_region_law (first | (refine step_append_lies _ (by rfl) _ _ _ (by rfl) w8.heap.size 3 i0 _ 1 8 Tryd.underlying31 hi0 hz0 hz1 hz2 rfl (by decide) (.slice none 0 0) 0 [] (by rfl) (World.ownsRow_nil _ _ _ _) ⟨b, 0, none⟩ X c8 (Is (upto X (ix R.2.1))) (by rfl) (by rw [Is_length, upto_length, Nat.mul_one]) (news_of_row row1.out) (Is_one _) hX0 hXm hXb (Nat.le_refl _) w8.heap.size rfl ?_; intro gg cap1 w9 hown1 hgrow _ _; have B9 := Lib.hid ((below_drew (Below.refl w8.heap.size w8)).grown hgrow (Nat.le_refl _) (fun k hk => by cases hk)); have KX9 := Lib.hid (LX8.out.below B9.out); have H91 := Lib.hid (ints_copy hown1); have cz := KX9.out.cell 3; have fz := KX9.out.frozen 3; clear hown1 hgrow))
          obtain ⟨V9, hV9⟩ : ∃ V, V = w9.setCell ⟨w.heap.size, 3, none⟩ (.slice (some ⟨gg, 0, none⟩) X cap1) := ⟨_, rfl⟩
          have o9 : Only (fun i => i = w.heap.size) w9 V9 := by rw [hV9]; exact (Only.refl (fun i => i = w.heap.size) w9).store (p := ⟨w.heap.size, 3, none⟩) (.inl rfl) _
          have KV9 : Hid (Blk V9 w.heap.size 36 #[.bool fb, .int .i64 (k : Int), .int .i64 0, .slice (some ⟨gg, 0, none⟩) X cap1, .slice none 0 0]) := Lib.hid (by rw [hV9]; exact KX9.out.store 3 _)
          have I9 : Hid (ints V9 w8.heap.size 3 (.slice (some ⟨gg, 0, none⟩) X cap1) (upto X (ix R.2.1))) := Lib.hid (H91.out.only o9 (fun i hi e => by
            have h1 := (H91.out.lo i hi).1
            have h2 := LX8.out.lt
            have : i = w.heap.size := e
            omega))
          have row2' : Hid (row V9 (some ⟨b, X, none⟩) D (fun i => ix R.2.1 (X + i))) := Lib.hid (row_only (row2.out.below B9.out) o9 HBX.out)
          have RR9 := Lib.hid (Blk.only (RR8.out.below B9.out) o9 (fun e => NE.out.2.2.2.2.2.1 e.symm))
          have LY9 := Lib.hid ((LY8.out.below B9.out).only o9 (fun e => by have : w.heap.size + 1 = w.heap.size := e; omega))
          have On9 : Hid (Only (At g) w V9) := Lib.hid ((On8.out.trans (Only.of_below B9.out)).then o9 (fun i hi hlt => by have : i = w.heap.size := hi; omega))
          have S89 : Hid (w8.heap.size ≤ V9.heap.size) := Lib.hid (Nat.le_trans B9.out.size o9.size)
          rw [← hV9]
          clear hV9 o9 cz fz KX9 H91 row1 row2 RR8 LY8 On8 B9 cX3 LX8
          have cX4 := KV9.out.cell 4
          go_wp2_with fail
          go_region_law (first | (refine step_append_lies _ (by rfl) _ _ _ (by rfl) V9.heap.size 3 i0 _ 1 8 Tryd.underlying31 hi0 hz0 hz1 hz2 rfl (by decide) (.slice none 0 0) 0 [] (by rfl) (World.ownsRow_nil _ _ _ _) ⟨b, X, none⟩ D (c8 - X) (Is (upto D (fun i => ix R.2.1 (X + i)))) (by rfl) (by rw [Is_length, upto_length, Nat.mul_one]) (news_of_row row2'.out) (Is_one _) hD1 hDm hDb (Nat.le_refl _) V9.heap.size rfl ?_; intro gg2 cap2 w10 hown2 hgrow2 _ _; have B10 := Lib.hid ((below_drew (Below.refl V9.heap.size V9)).grown hgrow2 (Nat.le_refl _) (fun k hk => by cases hk)); have KX10 := Lib.hid (KV9.out.below B10.out); have H10 := Lib.hid (ints_copy hown2); have cz := KX10.out.cell 4; have fz := KX10.out.frozen 4; clear hown2 hgrow2))
          obtain ⟨V10, hV10⟩ : ∃ V, V = w10.setCell ⟨w.heap.size, 4, none⟩ (.slice (some ⟨gg2, 0, none⟩) D cap2) := ⟨_, rfl⟩
          have o10 : Only (fun i => i = w.heap.size) w10 V10 := by rw [hV10]; exact (Only.refl (fun i => i = w.heap.size) w10).store (p := ⟨w.heap.size, 4, none⟩) (.inl rfl) _
          have KV : Hid (Blk V10 w.heap.size 36 #[.bool fb, .int .i64 (k : Int), .int .i64 0, .slice (some ⟨gg, 0, none⟩) X cap1, .slice (some ⟨gg2, 0, none⟩) D cap2]) := Lib.hid (by rw [hV10]; exact KX10.out.store 4 _)
          have J1 : Hid (ints V10 w8.heap.size 3 (.slice (some ⟨gg, 0, none⟩) X cap1) (upto X (ix R.2.1))) := Lib.hid ((I9.out.below B10.out).only o10 (fun i hi e => by
            have h1 := (I9.out.lo i hi).1
            have : i = w.heap.size := e
            have := HW8.out
            omega))
          have J2 : Hid (ints V10 w8.heap.size 3 (.slice (some ⟨gg2, 0, none⟩) D cap2) (upto D (fun i => ix R.2.1 (X + i)))) := Lib.hid (ints_lower (H10.out.only o10 (fun i hi e => by
            have h1 := (H10.out.lo i hi).1
            have : i = w.heap.size := e
            have := HW8.out
            have := S89.out
            omega)) S89.out)
          have RR10 := Lib.hid (Blk.only (RR9.out.below B10.out) o10 (fun e => NE.out.2.2.2.2.2.1 e.symm))
          have LY10 := Lib.hid ((LY9.out.below B10.out).only o10 (fun e => by have : w.heap.size + 1 = w.heap.size := e; omega))
          have On10 : Hid (Only (At g) w V10) := Lib.hid ((On9.out.trans (Only.of_below B10.out)).then o10 (fun i hi hlt => by have : i = w.heap.size := hi; omega))
          rw [← hV10]
          clear hV10 o10 cz fz KX10 H10 row2' RR9 LY9 On9 B10 cX4 KV9 I9 S89 eW hXc hXn hXne hX0 hXm hXb hDm hDb
          have cV3 := KV.out.cell 3
          have cV4 := KV.out.cell 4
          have HFi := Lib.hid (rfits_any (c1 := cap1) (c2 := cap2) hX2 (by omega) (by omega) (Lib.hid (ints_upto_row J1.out)) (Lib.hid (ints_upto_row J2.out)))
          rw [FP.out] at HFi
          obtain ⟨fe, hfe⟩ : ∃ fe, fe = fitsM (R.2.1.take X) (R.2.1.drop X) := ⟨_, rfl⟩
          rw [← hfe] at HFi
          have HFE := Lib.hid hfe
          clear hfe
          go_wp2_with fail
          refine HFi.out.mono ?_
          rintro e w11 ⟨rfl, b11⟩
          have B11 := Lib.hid b11
          have KV11 := Lib.hid (KV.out.below b11)
          have HYr := Lib.hid (LY10.out.below b11)
          have RR11 := Lib.hid (Blk.below RR10.out b11)
          have On11 := Lib.hid (On10.out.trans (Only.of_below b11))
          clear b11 cV3 cV4 KV LY10 RR10 On10
          by_cases hf0 : fe = 0
          · have HDS : Hid (DM = (0, (R.2.1.take X, R.2.1.drop X), R.2.2)) := Lib.hid (by rw [HDY.out, if_neg (by rw [HX1.out]; exact fun h => h rfl), if_neg (by rw [← HFE.out, hf0]; exact fun h => h rfl)])
            subst hf0
            go_wp2_with (first | (refine wpList_load_row rfl 36 _ rfl w.heap.size rfl _ _ _ _ KV11.out Tryd.underlying36 rfl sizeR ?_) | (refine wpList_store_row rfl 36 _ _ rfl (w.heap.size + 1) #[.bool fb, .int .i64 (k : Int), .int .i64 0, .slice (some ⟨gg, 0, none⟩) X cap1, .slice (some ⟨gg2, 0, none⟩) D cap2] rfl rfl _ _ HYr.out sizeR rfl (one5 _ _ _ _ _ _ _ _ _) ?_))
            refine bodyPost_ret (v := .tuple #[.agg #[.bool fb, .int .i64 (k : Int), .int .i64 0, .slice (some ⟨gg, 0, none⟩) X cap1, .slice (some ⟨gg2, 0, none⟩) D cap2], .int .i64 0]) (results_cell2 rfl _ _ (w.heap.size + 1) 36 _ _ _ rfl rfl (setRow_heap _ _ _ _ _ _ HYr.out) Tryd.underlying36 rfl sizeR) rfl ?_
            have oR : Only (fun i => i = w.heap.size + 1) w11 (w11.setRow (w.heap.size + 1) #[.bool fb, .int .i64 (k : Int), .int .i64 0, .slice (some ⟨gg, 0, none⟩) X cap1, .slice (some ⟨gg2, 0, none⟩) D cap2]) := only_row (S := fun i => i = w.heap.size + 1) (Only.refl _ _) rfl _
            have hw8 := HW8.out
            have j1 := (J1.out.below B11.out).only oR (fun i hi e => by have h1 := (J1.out.lo i hi).1; have : i = w.heap.size + 1 := e; omega)
            have j2 := (J2.out.below B11.out).only oR (fun i hi e => by have h1 := (J2.out.lo i hi).1; have : i = w.heap.size + 1 := e; omega)
            rw [UP.out.1] at j1
            rw [UP.out.2] at j2
            have rf := RR11.out.only oR (fun e => NE.out.2.2.2.2.2.2.1 e.symm)
            rw [HDS.out]
            refine ⟨fb, k, 0, some ⟨gg, 0, none⟩, X, cap1, some ⟨gg2, 0, none⟩, D, cap2, rfl, ?_, fun _ => rf, ⟨_, rf⟩, ?_⟩
            · rw [if_pos rfl]; exact ⟨_, _, rfl, lst_of j1, lst_of j2⟩
            · exact On11.out.then oR (fun i hi hlt => by have : i = w.heap.size + 1 := hi; omega)
          · have hne : (fe != 0) = true := by simpa using hf0
            have HDS : Hid (DM = (fe, ([], []), 0)) := Lib.hid (by rw [HDY.out, if_neg (by rw [HX1.out]; exact fun h => h rfl), if_pos (by rw [← HFE.out]; exact hf0), HFE.out])
            have HNE := Lib.hid hf0
            clear hf0
            have HY9 := Lib.hid (HYr.out)
            go_wp2_with (refine wpList_store_row rfl 36 _ _ rfl (w.heap.size + 1) z5 rfl rfl _ _ HY9.out sizeR rfl (one5 _ _ _ _ _ _ _ _ _) ?_)
            refine bodyPost_ret (v := .tuple #[.agg z5, .int .i64 fe]) (results_cell2 rfl _ _ (w.heap.size + 1) 36 z5 _ _ rfl rfl (setRow_heap _ _ _ _ _ _ HY9.out) Tryd.underlying36 rfl sizeR) rfl ?_
            rw [HDS.out]
            exact end_err On11.out (Nat.le_succ _) HG.out RR11.out HNE.out
        · have hne : (x1 != 0) = true := by simpa using hx10
          have HDS : Hid (DM = (x1, ([], []), 0)) := Lib.hid (by rw [HDY.out, if_pos (by rw [← hx1]; exact hx10), hx1])
          have HNE := Lib.hid hx10
          have HYr := LY8
          clear hx1 hx10
          have HY9 := Lib.hid (HYr.out)
          go_wp2_with (refine wpList_store_row rfl 36 _ _ rfl (w.heap.size + 1) z5 rfl rfl _ _ HY9.out sizeR rfl (one5 _ _ _ _ _ _ _ _ _) ?_)
          refine bodyPost_ret (v := .tuple #[.agg z5, .int .i64 x1]) (results_cell2 rfl _ _ (w.heap.size + 1) 36 z5 _ _ rfl rfl (setRow_heap _ _ _ _ _ _ HY9.out) Tryd.underlying36 rfl sizeR) rfl ?_
          rw [HDS.out]
          exact end_err On8.out (Nat.le_succ _) HG.out R8.out HNE.out
      · have hne : (er != 0) = true := by simpa using he0
        have HDS : Hid (DM = (er, ([], []), 0)) := Lib.hid (by rw [HD0.out, if_neg (by omega), if_pos (by rw [← her]; exact he0), her])
        have HNE := Lib.hid he0
        clear her he0
        go_wp2_with fail
        refine HF.out.mono ?_
        rintro e w7 ⟨rfl, b7⟩
        have R7 := Lib.hid (LR.out.below b7)
        have On7 := Lib.hid (LOn.out.trans (Only.of_below b7))
        have HYr := Lib.hid (LY.out.below b7)
        clear b7
        have HY9 := Lib.hid (HYr.out)
        go_wp2_with (refine wpList_store_row rfl 36 _ _ rfl (w.heap.size + 1) z5 rfl rfl _ _ HY9.out sizeR rfl (one5 _ _ _ _ _ _ _ _ _) ?_)
        refine bodyPost_ret (v := .tuple #[.agg z5, .int .i64 er]) (results_cell2 rfl _ _ (w.heap.size + 1) 36 z5 _ _ rfl rfl (setRow_heap _ _ _ _ _ _ HY9.out) Tryd.underlying36 rfl sizeR) rfl ?_
        rw [HDS.out]
        exact end_err On7.out (Nat.le_succ _) HG.out R7.out HNE.out
end
end Go.Proofs.YtgbdecnaamlekaaDoor.Mh
