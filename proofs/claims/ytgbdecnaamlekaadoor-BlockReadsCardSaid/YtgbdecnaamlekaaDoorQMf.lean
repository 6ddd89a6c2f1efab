/-
  The reference's stored: the rest of a stored head, or what is wrong.
  Conditions: a string of at most 2^48 bytes, a place within it.
-/
import Derived.Test.YtgbdecnaamlekaaDoorQMe
namespace Go.Proofs.YtgbdecnaamlekaaDoor.Mf
open Go.RowKit Go.Proofs.YtgbdecnaamlekaaDoor.Vm Go.Proofs.YtgbdecnaamlekaaDoor.Vo Go.Proofs.YtgbdecnaamlekaaDoor.Bm Go.Proofs.YtgbdecnaamlekaaDoor.Bt Go.Proofs.YtgbdecnaamlekaaDoor.Bw Go.Proofs.YtgbdecnaamlekaaDoor.Bp Go.Proofs.YtgbdecnaamlekaaDoor.Bs Go.Proofs.YtgbdecnaamlekaaDoor.Bv Go.Proofs.YtgbdecnaamlekaaDoor.Bx Go.Proofs.YtgbdecnaamlekaaDoor.Na Go.Proofs.YtgbdecnaamlekaaDoor.Nf Go.Proofs.YtgbdecnaamlekaaDoor.Nm Go.Proofs.YtgbdecnaamlekaaDoor.Ni Go.Proofs.YtgbdecnaamlekaaDoor.Ne Go.Proofs.YtgbdecnaamlekaaDoor.Nh Go.Proofs.YtgbdecnaamlekaaDoor.Pm Go.Proofs.YtgbdecnaamlekaaDoor.Pw Go.Proofs.YtgbdecnaamlekaaDoor.Pi Go.Proofs.YtgbdecnaamlekaaDoor.Ko Go.Proofs.YtgbdecnaamlekaaDoor.Ka Go.Proofs.YtgbdecnaamlekaaDoor.Kb Go.Proofs.YtgbdecnaamlekaaDoor.Km Go.Proofs.YtgbdecnaamlekaaDoor.Kw Go.Proofs.YtgbdecnaamlekaaDoor.Ks Go.Proofs.YtgbdecnaamlekaaDoor.Kc Go.Proofs.YtgbdecnaamlekaaDoor.Kd Go.Proofs.YtgbdecnaamlekaaDoor.Ke Go.Proofs.YtgbdecnaamlekaaDoor.Ky Go.Proofs.YtgbdecnaamlekaaDoor.Kx Go.Proofs.YtgbdecnaamlekaaDoor.Ku Go.Proofs.YtgbdecnaamlekaaDoor.Kh Go.Proofs.YtgbdecnaamlekaaDoor.Be Go.Proofs.YtgbdecnaamlekaaDoor.Ki Go.Proofs.YtgbdecnaamlekaaDoor.Kl Go.Proofs.YtgbdecnaamlekaaDoor.Kn Go.Proofs.YtgbdecnaamlekaaDoor.Ma Go.Proofs.YtgbdecnaamlekaaDoor.Kp Go.Proofs.YtgbdecnaamlekaaDoor.Br Go.Proofs.YtgbdecnaamlekaaDoor.Bq Go.Proofs.YtgbdecnaamlekaaDoor.Pr Go.Proofs.YtgbdecnaamlekaaDoor.Me

/-- What the reference answers of a head: what is wrong, the head, the reader behind it. -/
def rHd (g : Nat) (s : ByteArray) (w : World) (er : Int) (h : Hd) (p : Nat) (e : Ending) (w' : World) : Prop :=
  ∃ b k z A1 n1 c1 A2 n2 c2, e = .returned (.tuple #[hv b k z (.slice A1 n1 c1) (.slice A2 n2 c2), .int .i64 er]) ∧
    isH w' (hv b k z (.slice A1 n1 c1) (.slice A2 n2 c2)) (if er = 0 then h else Hd.zero) ∧ (er = 0 → rr w' g s p) ∧ (∃ a', rr w' g s a') ∧ Only (At g) w w'
theorem end_err {g : Nat} {s : ByteArray} {w u : World} {er : Int} {h : Hd} {p a' Y : Nat} (HO : Only (At g) w u) (hY : w.heap.size ≤ Y) (hg : g < w.heap.size) (r : rr u g s a') (he : er ≠ 0) :
    rHd g s w er h p (.returned (.tuple #[.agg z5, .int .i64 er])) (u.setRow Y z5) := by
  refine ⟨false, 0, 0, none, 0, 0, none, 0, 0, rfl, ?_, fun e => absurd e he, ⟨a', ?_⟩, only_setRow HO hY _⟩
  · rw [if_neg he]; exact ⟨_, _, rfl, lst_nil _, lst_nil _⟩
  · exact Blk.only r (only_row (S := fun i => i = Y) (Only.refl _ _) rfl _) (fun e => by have : g = Y := e; omega)

section
variable {w : World} {g : Nat} {s : ByteArray} {a : Nat}
set_option maxHeartbeats 2000000 in
set_option maxRecDepth 100000 in
theorem rstored_any (fb : Bool) (k : Nat) (h : rr w g s a) (hs : s.size ≤ 281474976710656) (ha : a ≤ 8 * s.size) :
    Calls Tryd.prog 58 #[.pointer (some ⟨g, 0, none⟩), hv fb (k : Int) 0 (.slice none 0 0) (.slice none 0 0)] w
      (rHd g s w (stoM (num s.data.toList) (8 * s.size) a).1 ⟨fb, k, (stoM (num s.data.toList) (8 * s.size) a).2.1, [], []⟩ (stoM (num s.data.toList) (8 * s.size) a).2.2) := by
  obtain ⟨c, hc⟩ : ∃ c, c = (a + 7) / 8 * 8 := ⟨_, rfl⟩
  have hcM : c ≤ 8 * s.size := by omega

  obtain ⟨w1, hw1⟩ : ∃ w1, w1 = (w.alloc (.cells #[.bool fb, .int .i64 (k : Int), .int .i64 0, .slice none 0 0, .slice none 0 0] 36)).alloc (.cells z5 36) := ⟨_, rfl⟩
  have b1 : Below w.heap.size w w1 := by rw [hw1]; exact grows (below_alloc _ _) (below_alloc _ _)
  have kX : Blk w1 w.heap.size 36 #[.bool fb, .int .i64 (k : Int), .int .i64 0, .slice none 0 0, .slice none 0 0] := by rw [hw1]; exact (Blk.fresh w _ _).below (below_alloc _ _)
  have kY : Blk w1 (w.heap.size + 1) 36 z5 := by
    have := Blk.fresh (w.alloc (.cells #[.bool fb, .int .i64 (k : Int), .int .i64 0, .slice none 0 0, .slice none 0 0] 36)) 36 z5
    rw [size_alloc] at this
    rw [hw1]; exact this
  have hgl : g < w.heap.size := h.lt
  have HG := Lib.hid hgl
  have h1 : rr w1 g s a := h.below b1
  have HA := Lib.hid (rAlign_any h1 hs ha)
  rw [← hc] at HA
  have HX : Hid (∀ u, Only (At g) w1 u → Blk u w.heap.size 36 #[.bool fb, .int .i64 (k : Int), .int .i64 0, .slice none 0 0, .slice none 0 0]) := Lib.hid (fun u o => kX.only o (fun e => by have : w.heap.size = g := e; omega))
  have HY : Hid (∀ u, Only (At g) w1 u → Blk u (w.heap.size + 1) 36 z5) := Lib.hid (fun u o => kY.only o (fun e => by have : w.heap.size + 1 = g := e; omega))
  have HO : Hid (∀ u, Only (At g) w1 u → Only (At g) w u) := Lib.hid (fun u o => (Only.of_below b1).trans o)
  have HS := Lib.hid hs
  obtain ⟨M, hM⟩ : ∃ M, M = 8 * s.size := ⟨_, rfl⟩
  have HM := Lib.hid hM
  obtain ⟨N, hN⟩ : ∃ N, N = num s.data.toList := ⟨_, rfl⟩
  have HN := Lib.hid hN
  rw [← hM] at hcM
  rw [← hM, ← hN]
  have HSM := Lib.hid (show stoM N M a = (if M - c < 32 then (2, 0, 0) else if peekN N c 16 + peekN N (c + 16) 16 ≠ 65535 then (6, 0, 0) else (0, peekN N c 16, c + 32)) by unfold stoM; rw [← hc])
  rw [HSM.out]
  clear b1 kX kY hgl h h1 hs ha hM hN hc
  by_cases hl : M - c < 32
  · rw [if_pos hl]
    by_cases hl16 : M - c < 16
    · go_enter Tryd.func58, Tryd.ntmps58
      go_wp2_with fail
      rw [← hw1]
      clear hw1
      refine HA.out.mono ?_
      rintro e w2 ⟨rfl, r2, o2⟩
      have R2 := Lib.hid r2; have O2 := Lib.hid o2; clear r2 o2
      go_wp2_with fail
      refine (rBits_short (m := 16) rfl (by omega) R2.out HS.out (by rw [← HM.out]; exact hcM) (by rw [← HM.out]; exact hl16)).mono ?_
      rintro e w3 ⟨rfl, r3, o3⟩
      have R3 := Lib.hid r3; have O3 := Lib.hid (O2.out.trans o3); clear r3 o3
      go_wp2_with fail
      refine (rBits_short (m := 16) rfl (by omega) R3.out HS.out (by rw [← HM.out]; exact hcM) (by rw [← HM.out]; exact hl16)).mono ?_
      rintro e w4 ⟨rfl, r4, o4⟩
      have R4 := Lib.hid r4; have O4 := Lib.hid (O3.out.trans o4); clear r4 o4
      have HY4 := Lib.hid (HY.out _ O4.out)
      go_wp2_with (refine wpList_store_row rfl 36 _ _ rfl (w.heap.size + 1) z5 rfl rfl _ _ HY4.out sizeR rfl (one5 _ _ _ _ _ _ _ _ _) ?_)
      refine bodyPost_ret (v := .tuple #[.agg z5, .int .i64 2]) (results_cell2 rfl _ _ (w.heap.size + 1) 36 z5 _ _ rfl rfl (setRow_heap _ _ _ _ _ _ HY4.out) Tryd.underlying36 rfl sizeR) rfl ?_
      exact end_err (HO.out _ O4.out) (Nat.le_succ _) HG.out R4.out (by decide)
    · obtain ⟨x, hx⟩ : ∃ x, x = peekN N c 16 := ⟨_, rfl⟩
      have HXv := Lib.hid hx
      clear hx
      go_enter Tryd.func58, Tryd.ntmps58
      go_wp2_with fail
      rw [← hw1]
      clear hw1
      refine HA.out.mono ?_
      rintro e w2 ⟨rfl, r2, o2⟩
      have R2 := Lib.hid r2; have O2 := Lib.hid o2; clear r2 o2
      go_wp2_with fail
      refine (rBits_has (m := 16) rfl (by omega) R2.out HS.out (by rw [← HM.out]; omega)).mono ?_
      rintro e w3 ⟨rfl, r3, o3⟩
      rw [← HN.out, ← HXv.out]
      have R3 := Lib.hid r3; have O3 := Lib.hid (O2.out.trans o3); clear r3 o3
      go_wp2_with fail
      refine (rBits_short (m := 16) rfl (by omega) R3.out HS.out (by rw [← HM.out]; omega) (by rw [← HM.out]; omega)).mono ?_
      rintro e w4 ⟨rfl, r4, o4⟩
      have R4 := Lib.hid r4; have O4 := Lib.hid (O3.out.trans o4); clear r4 o4
      have HY4 := Lib.hid (HY.out _ O4.out)
      go_wp2_with (refine wpList_store_row rfl 36 _ _ rfl (w.heap.size + 1) z5 rfl rfl _ _ HY4.out sizeR rfl (one5 _ _ _ _ _ _ _ _ _) ?_)
      refine bodyPost_ret (v := .tuple #[.agg z5, .int .i64 2]) (results_cell2 rfl _ _ (w.heap.size + 1) 36 z5 _ _ rfl rfl (setRow_heap _ _ _ _ _ _ HY4.out) Tryd.underlying36 rfl sizeR) rfl ?_
      exact end_err (HO.out _ O4.out) (Nat.le_succ _) HG.out R4.out (by decide)
  · rw [if_neg hl]
    obtain ⟨x, hx⟩ : ∃ x, x = peekN N c 16 := ⟨_, rfl⟩
    obtain ⟨y, hy⟩ : ∃ y, y = peekN N (c + 16) 16 := ⟨_, rfl⟩
    have hx16 : x < 65536 := by rw [hx]; exact peekN_lt _ _ _
    have hy16 : y < 65536 := by rw [hy]; exact peekN_lt _ _ _
    rw [← hx, ← hy]
    have HXv := Lib.hid hx
    have HYv := Lib.hid hy
    clear hx hy
    have HB1 := Lib.hid (show c + 16 ≤ M by omega)
    have HB2 := Lib.hid (show c + 16 + 16 ≤ M by omega)
    by_cases hxy : x + y = 65535
    · rw [if_neg (by omega)]
      have hne : ((x : Int) + (y : Int) != 65535) = false := by simp; omega
      go_enter Tryd.func58, Tryd.ntmps58
      go_wp2_with fail
      rw [← hw1]
      clear hw1
      refine HA.out.mono ?_
      rintro e w2 ⟨rfl, r2, o2⟩
      have R2 := Lib.hid r2; have O2 := Lib.hid o2; clear r2 o2
      go_wp2_with fail
      refine (rBits_has (m := 16) rfl (by omega) R2.out HS.out (by rw [← HM.out]; exact HB1.out)).mono ?_
      rintro e w3 ⟨rfl, r3, o3⟩
      rw [← HN.out, ← HXv.out]
      have R3 := Lib.hid r3; have O3 := Lib.hid (O2.out.trans o3); clear r3 o3
      go_wp2_with fail
      refine (rBits_has (m := 16) rfl (by omega) R3.out HS.out (by rw [← HM.out]; exact HB2.out)).mono ?_
      rintro e w4 ⟨rfl, r4, o4⟩
      rw [← HN.out, ← HYv.out]
      have R4 := Lib.hid r4; have O4 := Lib.hid (O3.out.trans o4); clear r4 o4
      have k4 := HX.out _ O4.out
      have c2 := k4.cell 2
      have f2 := k4.frozen 2
      have HL : Hid (Blk (w4.setCell ⟨w.heap.size, 2, none⟩ (.int .i64 (x : Int))) w.heap.size 36 #[.bool fb, .int .i64 (k : Int), .int .i64 (x : Int), .slice none 0 0, .slice none 0 0]) := Lib.hid (k4.store 2 _)
      have HR6 : Hid (Blk (w4.setCell ⟨w.heap.size, 2, none⟩ (.int .i64 (x : Int))) (w.heap.size + 1) 36 z5) := Lib.hid ((HY.out _ O4.out).apartStore (by show w.heap.size + 1 ≠ w.heap.size; omega))
      clear k4
      go_wp2_with (first | (refine wpList_load_row rfl 36 _ rfl w.heap.size rfl _ _ _ _ HL.out Tryd.underlying36 rfl sizeR ?_) | (refine wpList_store_row rfl 36 _ _ rfl (w.heap.size + 1) #[.bool fb, .int .i64 (k : Int), .int .i64 (x : Int), .slice none 0 0, .slice none 0 0] rfl rfl _ _ HR6.out sizeR rfl (one5 _ _ _ _ _ _ _ _ _) ?_))
      refine bodyPost_ret (v := .tuple #[.agg #[.bool fb, .int .i64 (k : Int), .int .i64 (x : Int), .slice none 0 0, .slice none 0 0], .int .i64 0]) (results_cell2 rfl _ _ (w.heap.size + 1) 36 _ _ _ rfl rfl (setRow_heap _ _ _ _ _ _ HR6.out) Tryd.underlying36 rfl sizeR) rfl ?_
      have O6 : Only (two w.heap.size (w.heap.size + 1)) w4 ((w4.setCell ⟨w.heap.size, 2, none⟩ (.int .i64 (x : Int))).setRow (w.heap.size + 1) #[.bool fb, .int .i64 (k : Int), .int .i64 (x : Int), .slice none 0 0, .slice none 0 0]) := only_row ((Only.refl _ w4).store (p := ⟨w.heap.size, 2, none⟩) (.inl (.inl rfl)) _) (.inr rfl) _
      have hgl := HG.out
      have r6 := R4.out.only O6 (fun e => by rcases e with e | e <;> omega)
      refine ⟨fb, k, x, none, 0, 0, none, 0, 0, rfl, ?_, fun _ => r6, ⟨_, r6⟩, ?_⟩
      · rw [if_pos rfl]; exact ⟨_, _, rfl, lst_nil _, lst_nil _⟩
      · exact Only.then (HO.out _ O4.out) O6 (fun i hi hlt => by rcases hi with e | e <;> omega)
    · rw [if_pos (by omega)]
      have hne : ((x : Int) + (y : Int) != 65535) = true := by simp; omega
      go_enter Tryd.func58, Tryd.ntmps58
      go_wp2_with fail
      rw [← hw1]
      clear hw1
      refine HA.out.mono ?_
      rintro e w2 ⟨rfl, r2, o2⟩
      have R2 := Lib.hid r2; have O2 := Lib.hid o2; clear r2 o2
      go_wp2_with fail
      refine (rBits_has (m := 16) rfl (by omega) R2.out HS.out (by rw [← HM.out]; exact HB1.out)).mono ?_
      rintro e w3 ⟨rfl, r3, o3⟩
      rw [← HN.out, ← HXv.out]
      have R3 := Lib.hid r3; have O3 := Lib.hid (O2.out.trans o3); clear r3 o3
      go_wp2_with fail
      refine (rBits_has (m := 16) rfl (by omega) R3.out HS.out (by rw [← HM.out]; exact HB2.out)).mono ?_
      rintro e w4 ⟨rfl, r4, o4⟩
      rw [← HN.out, ← HYv.out]
      have R4 := Lib.hid r4; have O4 := Lib.hid (O3.out.trans o4); clear r4 o4
      have HY4 := Lib.hid (HY.out _ O4.out)
      go_wp2_with (refine wpList_store_row rfl 36 _ _ rfl (w.heap.size + 1) z5 rfl rfl _ _ HY4.out sizeR rfl (one5 _ _ _ _ _ _ _ _ _) ?_)
      refine bodyPost_ret (v := .tuple #[.agg z5, .int .i64 6]) (results_cell2 rfl _ _ (w.heap.size + 1) 36 z5 _ _ rfl rfl (setRow_heap _ _ _ _ _ _ HY4.out) Tryd.underlying36 rfl sizeR) rfl ?_
      exact end_err (HO.out _ O4.out) (Nat.le_succ _) HG.out R4.out (by decide)
end
end Go.Proofs.YtgbdecnaamlekaaDoor.Mf
