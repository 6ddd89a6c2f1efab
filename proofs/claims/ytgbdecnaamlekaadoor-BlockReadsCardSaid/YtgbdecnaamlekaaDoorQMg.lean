/-
  The reference's dynamic: the rest of a dynamic head, or what is wrong.
  Conditions: a string of at most 2^48 bytes, a place within it.
-/
import Derived.Test.YtgbdecnaamlekaaDoorQMf
import Derived.Test.YtgbdecnaamlekaaDoorQbd
import Derived.Deep.AppendLies
namespace Go.Proofs.YtgbdecnaamlekaaDoor.Mg
open Go.RowKit Go.Proofs.YtgbdecnaamlekaaDoor.Vm Go.Proofs.YtgbdecnaamlekaaDoor.Vo Go.Proofs.YtgbdecnaamlekaaDoor.Bm Go.Proofs.YtgbdecnaamlekaaDoor.Bt Go.Proofs.YtgbdecnaamlekaaDoor.Bw Go.Proofs.YtgbdecnaamlekaaDoor.Bp Go.Proofs.YtgbdecnaamlekaaDoor.Bs Go.Proofs.YtgbdecnaamlekaaDoor.Bv Go.Proofs.YtgbdecnaamlekaaDoor.Bx Go.Proofs.YtgbdecnaamlekaaDoor.Na Go.Proofs.YtgbdecnaamlekaaDoor.Nf Go.Proofs.YtgbdecnaamlekaaDoor.Nm Go.Proofs.YtgbdecnaamlekaaDoor.Ni Go.Proofs.YtgbdecnaamlekaaDoor.Ne Go.Proofs.YtgbdecnaamlekaaDoor.Nh Go.Proofs.YtgbdecnaamlekaaDoor.Pm Go.Proofs.YtgbdecnaamlekaaDoor.Pw Go.Proofs.YtgbdecnaamlekaaDoor.Pi Go.Proofs.YtgbdecnaamlekaaDoor.Ko Go.Proofs.YtgbdecnaamlekaaDoor.Ka Go.Proofs.YtgbdecnaamlekaaDoor.Kb Go.Proofs.YtgbdecnaamlekaaDoor.Km Go.Proofs.YtgbdecnaamlekaaDoor.Kw Go.Proofs.YtgbdecnaamlekaaDoor.Ks Go.Proofs.YtgbdecnaamlekaaDoor.Kc Go.Proofs.YtgbdecnaamlekaaDoor.Kd Go.Proofs.YtgbdecnaamlekaaDoor.Ke Go.Proofs.YtgbdecnaamlekaaDoor.Ky Go.Proofs.YtgbdecnaamlekaaDoor.Kx Go.Proofs.YtgbdecnaamlekaaDoor.Ku Go.Proofs.YtgbdecnaamlekaaDoor.Kh Go.Proofs.YtgbdecnaamlekaaDoor.Be Go.Proofs.YtgbdecnaamlekaaDoor.Ki Go.Proofs.YtgbdecnaamlekaaDoor.Kl Go.Proofs.YtgbdecnaamlekaaDoor.Kn Go.Proofs.YtgbdecnaamlekaaDoor.Ma Go.Proofs.YtgbdecnaamlekaaDoor.Kp Go.Proofs.YtgbdecnaamlekaaDoor.Br Go.Proofs.YtgbdecnaamlekaaDoor.Bq Go.Proofs.YtgbdecnaamlekaaDoor.Pr Go.Proofs.YtgbdecnaamlekaaDoor.Me Go.Proofs.YtgbdecnaamlekaaDoor.Mf Go.Proofs.YtgbdecnaamlekaaDoor.Kz

section
variable {w : World} {g : Nat} {s : ByteArray} {a : Nat}
/-- Bits that may be missing. -/
theorem rBits_may {z : Int} {m : Nat} (hz : z = (m : Int)) (hm : m ≤ 32) (h : rr w g s a) (hs : s.size ≤ 281474976710656) (ha : a ≤ 8 * s.size) :
    Calls Tryd.prog 57 #[.pointer (some ⟨g, 0, none⟩), .int .i64 z] w fun e w' => ∃ v er a', e = .returned (.tuple #[.int .i64 v, .int .i64 er]) ∧ rr w' g s a' ∧ a' ≤ 8 * s.size ∧ Only (At g) w w' := by
  by_cases hl : 8 * s.size - a < m
  · exact (rBits_short hz hm h hs ha hl).mono (fun e w' ⟨he, r, o⟩ => ⟨_, _, a, he, r, ha, o⟩)
  · exact (rBits_has hz hm h hs (by omega)).mono (fun e w' ⟨he, r, o⟩ => ⟨_, _, a + m, he, r, by omega, o⟩)
/-- What the reference answers of a dynamic head. -/
def rDyn (g : Nat) (s : ByteArray) (a : Nat) (fb : Bool) (k : Nat) (w : World) : Ending → World → Prop :=
  rHd g s w (dynM (num s.data.toList) (8 * s.size) a).1 ⟨fb, k, 0, (dynM (num s.data.toList) (8 * s.size) a).2.1.1, (dynM (num s.data.toList) (8 * s.size) a).2.1.2⟩ (dynM (num s.data.toList) (8 * s.size) a).2.2

set_option maxHeartbeats 2000000 in
set_option maxRecDepth 100000 in
theorem rdyn_short (fb : Bool) (k : Nat) (h : rr w g s a) (hs : s.size ≤ 281474976710656) (ha : a ≤ 8 * s.size) (hl : 8 * s.size - a < 14) :
    Calls Tryd.prog 59 #[.pointer (some ⟨g, 0, none⟩), hv fb (k : Int) 0 (.slice none 0 0) (.slice none 0 0)] w (rDyn g s a fb k w) := by
  unfold rDyn
  obtain ⟨w1, hw1⟩ : ∃ w1, w1 = (w.alloc (.cells #[.bool fb, .int .i64 (k : Int), .int .i64 0, .slice none 0 0, .slice none 0 0] 36)).alloc (.cells z5 36) := ⟨_, rfl⟩
  have b1 : Below w.heap.size w w1 := by rw [hw1]; exact grows (below_alloc _ _) (below_alloc _ _)
  have kX : Blk w1 w.heap.size 36 #[.bool fb, .int .i64 (k : Int), .int .i64 0, .slice none 0 0, .slice none 0 0] := by rw [hw1]; exact (Blk.fresh w _ _).below (below_alloc _ _)
  have kY : Blk w1 (w.heap.size + 1) 36 z5 := by
    have := Blk.fresh (w.alloc (.cells #[.bool fb, .int .i64 (k : Int), .int .i64 0, .slice none 0 0, .slice none 0 0] 36)) 36 z5
    rw [size_alloc] at this
    rw [hw1]; exact this
  have hgl : g < w.heap.size := h.lt
  have HG := Lib.hid hgl
  have H1 : Hid (rr w1 g s a) := Lib.hid (h.below b1)
  have HX : Hid (∀ u, Only (At g) w1 u → Blk u w.heap.size 36 #[.bool fb, .int .i64 (k : Int), .int .i64 0, .slice none 0 0, .slice none 0 0]) := Lib.hid (fun u o => kX.only o (fun e => by have : w.heap.size = g := e; omega))
  have HY : Hid (∀ u, Only (At g) w1 u → Blk u (w.heap.size + 1) 36 z5) := Lib.hid (fun u o => kY.only o (fun e => by have : w.heap.size + 1 = g := e; omega))
  have HO : Hid (∀ u, Only (At g) w1 u → Only (At g) w u) := Lib.hid (fun u o => (Only.of_below b1).trans o)
  have HS := Lib.hid hs
  obtain ⟨M, hM⟩ : ∃ M, M = 8 * s.size := ⟨_, rfl⟩
  have HM := Lib.hid hM
  obtain ⟨N, hN⟩ : ∃ N, N = num s.data.toList := ⟨_, rfl⟩
  have HN := Lib.hid hN
  rw [← hM] at ha hl
  rw [← hM, ← hN]
  have HD : dynM N M a = (2, ([], []), 0) := by unfold dynM; rw [if_pos hl]
  rw [HD]
  clear b1 kX kY hgl h hs hM hN HD
  by_cases h5 : M - a < 5
  · go_enter Tryd.func59, Tryd.ntmps59
    go_wp2_with fail
    rw [← hw1]
    clear hw1
    refine (rBits_short (m := 5) rfl (by omega) H1.out HS.out (by rw [← HM.out]; exact ha) (by rw [← HM.out]; exact h5)).mono ?_
    rintro e w2 ⟨rfl, r2, o2⟩
    have R2 := Lib.hid r2; have O2 := Lib.hid o2; clear r2 o2
    go_wp2_with fail
    refine (rBits_may (m := 5) rfl (by omega) R2.out HS.out (by rw [← HM.out]; exact ha)).mono ?_
    rintro e w3 ⟨v3, er3, a3, rfl, r3, ha3, o3⟩
    have R3 := Lib.hid r3; have A3 := Lib.hid ha3; have O3 := Lib.hid (O2.out.trans o3); clear r3 o3 ha3
    go_wp2_with fail
    refine (rBits_may (m := 4) rfl (by omega) R3.out HS.out A3.out).mono ?_
    rintro e w4 ⟨v4, er4, a4, rfl, r4, ha4, o4⟩
    have R4 := Lib.hid r4; have O4 := Lib.hid (O3.out.trans o4); clear r4 o4 ha4
    have HY4 := Lib.hid (HY.out _ O4.out)
    go_wp2_with (refine wpList_store_row rfl 36 _ _ rfl (w.heap.size + 1) z5 rfl rfl _ _ HY4.out sizeR rfl (one5 _ _ _ _ _ _ _ _ _) ?_)
    refine bodyPost_ret (v := .tuple #[.agg z5, .int .i64 2]) (results_cell2 rfl _ _ (w.heap.size + 1) 36 z5 _ _ rfl rfl (setRow_heap _ _ _ _ _ _ HY4.out) Tryd.underlying36 rfl sizeR) rfl ?_
    exact end_err (HO.out _ O4.out) (Nat.le_succ _) HG.out R4.out (by decide)
  · by_cases h10 : M - a < 10
    · obtain ⟨x, hx⟩ : ∃ x, x = peekN N a 5 := ⟨_, rfl⟩
      have HXv := Lib.hid hx
      clear hx
      go_enter Tryd.func59, Tryd.ntmps59
      go_wp2_with fail
      rw [← hw1]
      clear hw1
      refine (rBits_has (m := 5) rfl (by omega) H1.out HS.out (by rw [← HM.out]; omega)).mono ?_
      rintro e w2 ⟨rfl, r2, o2⟩
      rw [← HN.out, ← HXv.out]
      have R2 := Lib.hid r2; have O2 := Lib.hid o2; clear r2 o2
      go_wp2_with fail
      refine (rBits_short (m := 5) rfl (by omega) R2.out HS.out (by rw [← HM.out]; omega) (by rw [← HM.out]; omega)).mono ?_
      rintro e w3 ⟨rfl, r3, o3⟩
      have R3 := Lib.hid r3; have O3 := Lib.hid (O2.out.trans o3); clear r3 o3
      go_wp2_with fail
      refine (rBits_may (m := 4) rfl (by omega) R3.out HS.out (by rw [← HM.out]; omega)).mono ?_
      rintro e w4 ⟨v4, er4, a4, rfl, r4, ha4, o4⟩
      have R4 := Lib.hid r4; have O4 := Lib.hid (O3.out.trans o4); clear r4 o4 ha4
      have HY4 := Lib.hid (HY.out _ O4.out)
      go_wp2_with (refine wpList_store_row rfl 36 _ _ rfl (w.heap.size + 1) z5 rfl rfl _ _ HY4.out sizeR rfl (one5 _ _ _ _ _ _ _ _ _) ?_)
      refine bodyPost_ret (v := .tuple #[.agg z5, .int .i64 2]) (results_cell2 rfl _ _ (w.heap.size + 1) 36 z5 _ _ rfl rfl (setRow_heap _ _ _ _ _ _ HY4.out) Tryd.underlying36 rfl sizeR) rfl ?_
      exact end_err (HO.out _ O4.out) (Nat.le_succ _) HG.out R4.out (by decide)
    · obtain ⟨x, hx⟩ : ∃ x, x = peekN N a 5 := ⟨_, rfl⟩
      have HXv := Lib.hid hx
      obtain ⟨y, hy⟩ : ∃ y, y = peekN N (a + 5) 5 := ⟨_, rfl⟩
      have HYv := Lib.hid hy
      clear hx hy
      go_enter Tryd.func59, Tryd.ntmps59
      go_wp2_with fail
      rw [← hw1]
      clear hw1
      refine (rBits_has (m := 5) rfl (by omega) H1.out HS.out (by rw [← HM.out]; omega)).mono ?_
      rintro e w2 ⟨rfl, r2, o2⟩
      rw [← HN.out, ← HXv.out]
      have R2 := Lib.hid r2; have O2 := Lib.hid o2; clear r2 o2
      go_wp2_with fail
      refine (rBits_has (m := 5) rfl (by omega) R2.out HS.out (by rw [← HM.out]; omega)).mono ?_
      rintro e w3 ⟨rfl, r3, o3⟩
      rw [← HN.out, ← HYv.out]
      have R3 := Lib.hid r3; have O3 := Lib.hid (O2.out.trans o3); clear r3 o3
      go_wp2_with fail
      refine (rBits_short (m := 4) rfl (by omega) R3.out HS.out (by rw [← HM.out]; omega) (by rw [← HM.out]; omega)).mono ?_
      rintro e w4 ⟨rfl, r4, o4⟩
      have R4 := Lib.hid r4; have O4 := Lib.hid (O3.out.trans o4); clear r4 o4
      have HY4 := Lib.hid (HY.out _ O4.out)
      go_wp2_with (refine wpList_store_row rfl 36 _ _ rfl (w.heap.size + 1) z5 rfl rfl _ _ HY4.out sizeR rfl (one5 _ _ _ _ _ _ _ _ _) ?_)
      refine bodyPost_ret (v := .tuple #[.agg z5, .int .i64 2]) (results_cell2 rfl _ _ (w.heap.size + 1) 36 z5 _ _ rfl rfl (setRow_heap _ _ _ _ _ _ HY4.out) Tryd.underlying36 rfl sizeR) rfl ?_
      exact end_err (HO.out _ O4.out) (Nat.le_succ _) HG.out R4.out (by decide)


set_option maxHeartbeats 2000000 in
set_option maxRecDepth 100000 in
theorem rdyn_big (fb : Bool) (k : Nat) (h : rr w g s a) (hs : s.size ≤ 281474976710656) (ha : a ≤ 8 * s.size) (hl : ¬ 8 * s.size - a < 14) (hbg : 29 < peekN (num s.data.toList) a 5 ∨ 29 < peekN (num s.data.toList) (a + 5) 5) :
    Calls Tryd.prog 59 #[.pointer (some ⟨g, 0, none⟩), hv fb (k : Int) 0 (.slice none 0 0) (.slice none 0 0)] w (rDyn g s a fb k w) := by
  unfold rDyn
  obtain ⟨w1, hw1⟩ : ∃ w1, w1 = (w.alloc (.cells #[.bool fb, .int .i64 (k : Int), .int .i64 0, .slice none 0 0, .slice none 0 0] 36)).alloc (.cells z5 36) := ⟨_, rfl⟩
  have b1 : Below w.heap.size w w1 := by rw [hw1]; exact grows (below_alloc _ _) (below_alloc _ _)
  have kX : Blk w1 w.heap.size 36 #[.bool fb, .int .i64 (k : Int), .int .i64 0, .slice none 0 0, .slice none 0 0] := by rw [hw1]; exact (Blk.fresh w _ _).below (below_alloc _ _)
  have kY : Blk w1 (w.heap.size + 1) 36 z5 := by
    have := Blk.fresh (w.alloc (.cells #[.bool fb, .int .i64 (k : Int), .int .i64 0, .slice none 0 0, .slice none 0 0] 36)) 36 z5
    rw [size_alloc] at this
    rw [hw1]; exact this
  have hgl : g < w.heap.size := h.lt
  have HG := Lib.hid hgl
  have H1 : Hid (rr w1 g s a) := Lib.hid (h.below b1)
  have HX : Hid (∀ u, Only (At g) w1 u → Blk u w.heap.size 36 #[.bool fb, .int .i64 (k : Int), .int .i64 0, .slice none 0 0, .slice none 0 0]) := Lib.hid (fun u o => kX.only o (fun e => by have : w.heap.size = g := e; omega))
  have HY : Hid (∀ u, Only (At g) w1 u → Blk u (w.heap.size + 1) 36 z5) := Lib.hid (fun u o => kY.only o (fun e => by have : w.heap.size + 1 = g := e; omega))
  have HO : Hid (∀ u, Only (At g) w1 u → Only (At g) w u) := Lib.hid (fun u o => (Only.of_below b1).trans o)
  have HS := Lib.hid hs
  obtain ⟨M, hM⟩ : ∃ M, M = 8 * s.size := ⟨_, rfl⟩
  have HM := Lib.hid hM
  obtain ⟨N, hN⟩ : ∃ N, N = num s.data.toList := ⟨_, rfl⟩
  have HN := Lib.hid hN
  rw [← hM] at ha hl
  rw [← hM, ← hN]
  rw [← hN] at hbg
  have HD : dynM N M a = (3, ([], []), 0) := by unfold dynM; rw [if_neg hl, if_pos hbg]
  rw [HD]
  obtain ⟨x, hx⟩ : ∃ x, x = peekN N a 5 := ⟨_, rfl⟩
  obtain ⟨y, hy⟩ : ∃ y, y = peekN N (a + 5) 5 := ⟨_, rfl⟩
  obtain ⟨u, hu⟩ : ∃ u, u = peekN N (a + 10) 4 := ⟨_, rfl⟩
  have hx29 : x < 32 := by rw [hx]; exact peekN_lt _ _ _
  have hy29 : y < 32 := by rw [hy]; exact peekN_lt _ _ _
  have hu16 : u < 16 := by rw [hu]; exact peekN_lt _ _ _
  have HXv := Lib.hid hx
  have HYv := Lib.hid hy
  have HUv := Lib.hid hu
  rw [← hx, ← hy] at hbg
  have HB1 := Lib.hid (show a + 5 ≤ M by omega)
  have HB2 := Lib.hid (show a + 5 + 5 ≤ M by omega)
  have HB3 := Lib.hid (show a + 5 + 5 + 4 ≤ M by omega)
  clear b1 kX kY hgl h hs hM hN HD hx hy hu
  by_cases hx2 : 29 < x
  · clear hbg
    have t1 : (286 : Int) < (x : Int) + 257 := by omega
    go_enter Tryd.func59, Tryd.ntmps59
    go_wp2_with fail
    rw [← hw1]
    clear hw1
    refine (rBits_has (m := 5) rfl (by omega) H1.out HS.out (by rw [← HM.out]; exact HB1.out)).mono ?_
    rintro e w2 ⟨rfl, r2, o2⟩
    rw [← HN.out, ← HXv.out]
    have R2 := Lib.hid r2; have O2 := Lib.hid o2; clear r2 o2
    go_wp2_with fail
    refine (rBits_has (m := 5) rfl (by omega) R2.out HS.out (by rw [← HM.out]; exact HB2.out)).mono ?_
    rintro e w3 ⟨rfl, r3, o3⟩
    rw [← HN.out, ← HYv.out]
    have R3 := Lib.hid r3; have O3 := Lib.hid (O2.out.trans o3); clear r3 o3
    go_wp2_with fail
    refine (rBits_has (m := 4) rfl (by omega) R3.out HS.out (by rw [← HM.out]; exact HB3.out)).mono ?_
    rintro e w4 ⟨rfl, r4, o4⟩
    rw [← HN.out, ← show u = peekN N (a + 5 + 5) 4 from HUv.out]
    have R4 : Hid (rr w4 g s (a + 14)) := Lib.hid r4
    have O4 := Lib.hid (O3.out.trans o4)
    clear r4 o4
    have HY4 := Lib.hid (HY.out _ O4.out)
    go_wp2_with (refine wpList_store_row rfl 36 _ _ rfl (w.heap.size + 1) z5 rfl rfl _ _ HY4.out sizeR rfl (one5 _ _ _ _ _ _ _ _ _) ?_)
    refine bodyPost_ret (v := .tuple #[.agg z5, .int .i64 3]) (results_cell2 rfl _ _ (w.heap.size + 1) 36 z5 _ _ rfl rfl (setRow_heap _ _ _ _ _ _ HY4.out) Tryd.underlying36 rfl sizeR) rfl ?_
    exact end_err (HO.out _ O4.out) (Nat.le_succ _) HG.out R4.out (by decide)
  · have hy2 : 29 < y := by omega
    clear hbg
    have t1 : ¬ (286 : Int) < (x : Int) + 257 := by omega
    have t2 : (30 : Int) < (y : Int) + 1 := by omega
    go_enter Tryd.func59, Tryd.ntmps59
    go_wp2_with fail
    rw [← hw1]
    clear hw1
    refine (rBits_has (m := 5) rfl (by omega) H1.out HS.out (by rw [← HM.out]; exact HB1.out)).mono ?_
    rintro e w2 ⟨rfl, r2, o2⟩
    rw [← HN.out, ← HXv.out]
    have R2 := Lib.hid r2; have O2 := Lib.hid o2; clear r2 o2
    go_wp2_with fail
    refine (rBits_has (m := 5) rfl (by omega) R2.out HS.out (by rw [← HM.out]; exact HB2.out)).mono ?_
    rintro e w3 ⟨rfl, r3, o3⟩
    rw [← HN.out, ← HYv.out]
    have R3 := Lib.hid r3; have O3 := Lib.hid (O2.out.trans o3); clear r3 o3
    go_wp2_with fail
    refine (rBits_has (m := 4) rfl (by omega) R3.out HS.out (by rw [← HM.out]; exact HB3.out)).mono ?_
    rintro e w4 ⟨rfl, r4, o4⟩
    rw [← HN.out, ← show u = peekN N (a + 5 + 5) 4 from HUv.out]
    have R4 : Hid (rr w4 g s (a + 14)) := Lib.hid r4
    have O4 := Lib.hid (O3.out.trans o4)
    clear r4 o4
    have HY4 := Lib.hid (HY.out _ O4.out)
    go_wp2_with (refine wpList_store_row rfl 36 _ _ rfl (w.heap.size + 1) z5 rfl rfl _ _ HY4.out sizeR rfl (one5 _ _ _ _ _ _ _ _ _) ?_)
    refine bodyPost_ret (v := .tuple #[.agg z5, .int .i64 3]) (results_cell2 rfl _ _ (w.heap.size + 1) 36 z5 _ _ rfl rfl (setRow_heap _ _ _ _ _ _ HY4.out) Tryd.underlying36 rfl sizeR) rfl ?_
    exact end_err (HO.out _ O4.out) (Nat.le_succ _) HG.out R4.out (by decide)
end
end Go.Proofs.YtgbdecnaamlekaaDoor.Mg
