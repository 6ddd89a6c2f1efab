/-
  The reference's head and Read: what is read is what the numbers say; with an error the reader stands where it stood.
  Conditions: a string of at most 2^48 bytes, a place within it.
-/
import Derived.Test.YtgbdecnaamlekaaDoorQMh
namespace Go.Proofs.YtgbdecnaamlekaaDoor.Mi
open Go.RowKit Go.Proofs.YtgbdecnaamlekaaDoor.Vm Go.Proofs.YtgbdecnaamlekaaDoor.Vo Go.Proofs.YtgbdecnaamlekaaDoor.Bm Go.Proofs.YtgbdecnaamlekaaDoor.Bt Go.Proofs.YtgbdecnaamlekaaDoor.Bw Go.Proofs.YtgbdecnaamlekaaDoor.Bp Go.Proofs.YtgbdecnaamlekaaDoor.Bs Go.Proofs.YtgbdecnaamlekaaDoor.Bv Go.Proofs.YtgbdecnaamlekaaDoor.Bx Go.Proofs.YtgbdecnaamlekaaDoor.Na Go.Proofs.YtgbdecnaamlekaaDoor.Nf Go.Proofs.YtgbdecnaamlekaaDoor.Nm Go.Proofs.YtgbdecnaamlekaaDoor.Ni Go.Proofs.YtgbdecnaamlekaaDoor.Ne Go.Proofs.YtgbdecnaamlekaaDoor.Nh Go.Proofs.YtgbdecnaamlekaaDoor.Pm Go.Proofs.YtgbdecnaamlekaaDoor.Pw Go.Proofs.YtgbdecnaamlekaaDoor.Pi Go.Proofs.YtgbdecnaamlekaaDoor.Ko Go.Proofs.YtgbdecnaamlekaaDoor.Ka Go.Proofs.YtgbdecnaamlekaaDoor.Kb Go.Proofs.YtgbdecnaamlekaaDoor.Km Go.Proofs.YtgbdecnaamlekaaDoor.Kw Go.Proofs.YtgbdecnaamlekaaDoor.Ks Go.Proofs.YtgbdecnaamlekaaDoor.Kc Go.Proofs.YtgbdecnaamlekaaDoor.Kd Go.Proofs.YtgbdecnaamlekaaDoor.Ke Go.Proofs.YtgbdecnaamlekaaDoor.Ky Go.Proofs.YtgbdecnaamlekaaDoor.Kx Go.Proofs.YtgbdecnaamlekaaDoor.Ku Go.Proofs.YtgbdecnaamlekaaDoor.Kh Go.Proofs.YtgbdecnaamlekaaDoor.Be Go.Proofs.YtgbdecnaamlekaaDoor.Ki Go.Proofs.YtgbdecnaamlekaaDoor.Kl Go.Proofs.YtgbdecnaamlekaaDoor.Kn Go.Proofs.YtgbdecnaamlekaaDoor.Ma Go.Proofs.YtgbdecnaamlekaaDoor.Kp Go.Proofs.YtgbdecnaamlekaaDoor.Br Go.Proofs.YtgbdecnaamlekaaDoor.Bq Go.Proofs.YtgbdecnaamlekaaDoor.Pr Go.Proofs.YtgbdecnaamlekaaDoor.Me Go.Proofs.YtgbdecnaamlekaaDoor.Mf Go.Proofs.YtgbdecnaamlekaaDoor.Mg Go.Proofs.YtgbdecnaamlekaaDoor.Kz Go.Proofs.YtgbdecnaamlekaaDoor.Mh

section
variable {w : World} {g : Nat} {s : ByteArray} {a : Nat}
theorem rdynamic_any (fb : Bool) (k : Nat) (h : rr w g s a) (hs : s.size ≤ 281474976710656) (ha : a ≤ 8 * s.size) :
    Calls Tryd.prog 59 #[.pointer (some ⟨g, 0, none⟩), hv fb (k : Int) 0 (.slice none 0 0) (.slice none 0 0)] w (rDyn g s a fb k w) := by
  by_cases hl : 8 * s.size - a < 14
  · exact rdyn_short fb k h hs ha hl
  · by_cases hb : 29 < peekN (num s.data.toList) a 5 ∨ 29 < peekN (num s.data.toList) (a + 5) 5
    · exact rdyn_big fb k h hs ha hl hb
    · exact rdyn_more fb k h hs ha hl hb

theorem end_pass {u : World} {er : Int} {h hh : Hd} {p Y : Nat} {b : Bool} {k z : Int} {A1 A2 : Option Addr} {n1 c1 n2 c2 : Nat} (HO : Only (At g) w u) (hY : w.heap.size ≤ Y) (hg : g < w.heap.size) (kY : Blk u Y 36 z5)
    (i : isH u (hv b k z (.slice A1 n1 c1) (.slice A2 n2 c2)) hh) (e : hh = if er = 0 then h else Hd.zero) (hr : er = 0 → rr u g s p) (ha : ∃ a', rr u g s a') :
    rHd g s w er h p (.returned (.tuple #[.agg #[.bool b, .int .i64 k, .int .i64 z, .slice A1 n1 c1, .slice A2 n2 c2], .int .i64 er])) (u.setRow Y #[.bool b, .int .i64 k, .int .i64 z, .slice A1 n1 c1, .slice A2 n2 c2]) := by
  have o : Only (fun i => i = Y) u (u.setRow Y #[.bool b, .int .i64 k, .int .i64 z, .slice A1 n1 c1, .slice A2 n2 c2]) := only_row (S := fun i => i = Y) (Only.refl _ _) rfl _
  have hgY : ¬ g = Y := by omega
  refine ⟨b, k, z, A1, n1, c1, A2, n2, c2, rfl, ?_, fun e0 => Blk.only (hr e0) o hgY, ?_, only_setRow HO hY _⟩
  · rw [← e]
    exact i.off o (fun q hq => by
      obtain rfl : q = Y := hq
      exact ⟨_, _, kY, by decide⟩)
  · obtain ⟨a', r⟩ := ha
    exact ⟨a', Blk.only r o hgY⟩

/-- What the reference's head answers. -/
def rHead (g : Nat) (s : ByteArray) (a : Nat) (w : World) : Ending → World → Prop := rHd g s w (headM (num s.data.toList) (8 * s.size) a).1 (headM (num s.data.toList) (8 * s.size) a).2.1 (headM (num s.data.toList) (8 * s.size) a).2.2

set_option maxHeartbeats 4000000 in
set_option maxRecDepth 100000 in
theorem rhead_short (h : rr w g s a) (hs : s.size ≤ 281474976710656) (ha : a ≤ 8 * s.size) (hl : 8 * s.size - a < 3) : Calls Tryd.prog 36 #[.pointer (some ⟨g, 0, none⟩)] w (rHead g s a w) := by
  unfold rHead
  rw [head_short hl]
  obtain ⟨w1, hw1⟩ : ∃ w1, w1 = w.alloc (.cells z5 36) := ⟨_, rfl⟩
  have b1 : Below w.heap.size w w1 := by rw [hw1]; exact below_alloc _ _
  have kY : Blk w1 w.heap.size 36 z5 := by rw [hw1]; exact Blk.fresh _ _ _
  have hgl : g < w.heap.size := h.lt
  have HG := Lib.hid hgl
  have H1 : Hid (rr w1 g s a) := Lib.hid (h.below b1)
  have HY : Hid (∀ u, Only (At g) w1 u → Blk u w.heap.size 36 z5) := Lib.hid (fun u o => kY.only o (fun e => by have : w.heap.size = g := e; omega))
  have HO : Hid (∀ u, Only (At g) w1 u → Only (At g) w u) := Lib.hid (fun u o => (Only.of_below b1).trans o)
  have HS := Lib.hid hs
  clear b1 kY hgl h hs
  by_cases h1 : 8 * s.size - a < 1
  · go_enter Tryd.func36, Tryd.ntmps36
    go_wp2_with fail
    rw [← hw1]
    clear hw1
    refine (rBits_short (m := 1) rfl (by omega) H1.out HS.out ha h1).mono ?_
    rintro e w2 ⟨rfl, r2, o2⟩
    have R2 := Lib.hid r2; have O2 := Lib.hid o2; clear r2 o2
    go_wp2_with fail
    refine (rBits_may (m := 2) rfl (by omega) R2.out HS.out ha).mono ?_
    rintro e w3 ⟨v3, er3, a3, rfl, r3, ha3, o3⟩
    have R3 := Lib.hid r3; have O3 := Lib.hid (O2.out.trans o3); clear r3 o3 ha3
    have HY3 := Lib.hid (HY.out _ O3.out)
    go_wp2_with (refine wpList_store_row rfl 36 _ _ rfl w.heap.size z5 rfl rfl _ _ HY3.out sizeR rfl (one5 _ _ _ _ _ _ _ _ _) ?_)
    refine bodyPost_ret (v := .tuple #[.agg z5, .int .i64 2]) (results_cell2 rfl _ _ w.heap.size 36 z5 _ _ rfl rfl (setRow_heap _ _ _ _ _ _ HY3.out) Tryd.underlying36 rfl sizeR) rfl ?_
    exact end_err (HO.out _ O3.out) (Nat.le_refl _) HG.out R3.out (by decide)
  · obtain ⟨x, hx⟩ : ∃ x, x = peekN (num s.data.toList) a 1 := ⟨_, rfl⟩
    have HXv := Lib.hid hx
    clear hx
    go_enter Tryd.func36, Tryd.ntmps36
    go_wp2_with fail
    rw [← hw1]
    clear hw1
    refine (rBits_has (m := 1) rfl (by omega) H1.out HS.out (by omega)).mono ?_
    rintro e w2 ⟨rfl, r2, o2⟩
    rw [← HXv.out]
    have R2 := Lib.hid r2; have O2 := Lib.hid o2; clear r2 o2
    go_wp2_with fail
    refine (rBits_short (m := 2) rfl (by omega) R2.out HS.out (by omega) (by omega)).mono ?_
    rintro e w3 ⟨rfl, r3, o3⟩
    have R3 := Lib.hid r3; have O3 := Lib.hid (O2.out.trans o3); clear r3 o3
    have HY3 := Lib.hid (HY.out _ O3.out)
    go_wp2_with (refine wpList_store_row rfl 36 _ _ rfl w.heap.size z5 rfl rfl _ _ HY3.out sizeR rfl (one5 _ _ _ _ _ _ _ _ _) ?_)
    refine bodyPost_ret (v := .tuple #[.agg z5, .int .i64 2]) (results_cell2 rfl _ _ w.heap.size 36 z5 _ _ rfl rfl (setRow_heap _ _ _ _ _ _ HY3.out) Tryd.underlying36 rfl sizeR) rfl ?_
    exact end_err (HO.out _ O3.out) (Nat.le_refl _) HG.out R3.out (by decide)

set_option maxHeartbeats 4000000 in
set_option maxRecDepth 100000 in
theorem rhead_no (h : rr w g s a) (hs : s.size ≤ 281474976710656) (ha : a ≤ 8 * s.size) (hl : ¬ 8 * s.size - a < 3) (hk : peekN (num s.data.toList) (a + 1) 2 = 3) : Calls Tryd.prog 36 #[.pointer (some ⟨g, 0, none⟩)] w (rHead g s a w) := by
  unfold rHead
  rw [head_no hl hk]
  obtain ⟨w1, hw1⟩ : ∃ w1, w1 = w.alloc (.cells z5 36) := ⟨_, rfl⟩
  have b1 : Below w.heap.size w w1 := by rw [hw1]; exact below_alloc _ _
  have kY : Blk w1 w.heap.size 36 z5 := by rw [hw1]; exact Blk.fresh _ _ _
  have hgl : g < w.heap.size := h.lt
  have HG := Lib.hid hgl
  have H1 : Hid (rr w1 g s a) := Lib.hid (h.below b1)
  have HY : Hid (∀ u, Only (At g) w1 u → Blk u w.heap.size 36 z5) := Lib.hid (fun u o => kY.only o (fun e => by have : w.heap.size = g := e; omega))
  have HO : Hid (∀ u, Only (At g) w1 u → Only (At g) w u) := Lib.hid (fun u o => (Only.of_below b1).trans o)
  have HSz : Hid (∀ u, Only (At g) w1 u → w.heap.size + 1 ≤ u.heap.size) := Lib.hid (fun u o => by have := o.size; rw [hw1, size_alloc] at this; exact this)
  have HS := Lib.hid hs
  have hp1 := peekN_lt (num s.data.toList) a 1
  obtain ⟨x, hx⟩ : ∃ x, x = peekN (num s.data.toList) a 1 := ⟨_, rfl⟩
  have HXv := Lib.hid hx
  obtain ⟨fb, hfb⟩ : ∃ fb : Bool, fb = decide (peekN (num s.data.toList) a 1 = 1) := ⟨_, rfl⟩
  have HFB := Lib.hid hfb
  have e1 : ((x : Int) == 1) = fb := by rw [hfb, Bool.eq_iff_iff, ← hx]; simp; omega
  have HK := Lib.hid hk
  have HB3 := Lib.hid (show a + 1 + 2 ≤ 8 * s.size by omega)
  have HB1 := Lib.hid (show a + 1 ≤ 8 * s.size by omega)
  clear b1 kY hgl h hs hp1 hx hfb hk hl ha
  go_enter Tryd.func36, Tryd.ntmps36
  go_wp2_with fail
  rw [← hw1]
  clear hw1
  refine (rBits_has (m := 1) rfl (by omega) H1.out HS.out HB1.out).mono ?_
  rintro e w2 ⟨rfl, r2, o2⟩
  rw [← HXv.out]
  have R2 := Lib.hid r2; have O2 := Lib.hid o2; clear r2 o2
  go_wp2_with fail
  refine (rBits_has (m := 2) rfl (by omega) R2.out HS.out HB3.out).mono ?_
  rintro e w3 ⟨rfl, r3, o3⟩
  rw [HK.out, show ((3 : Nat) : Int) = 3 from rfl]
  have R3 : Hid (rr w3 g s (a + 3)) := Lib.hid r3
  have O3 := Lib.hid (O2.out.trans o3)
  clear r3 o3
  have HYk := Lib.hid (HY.out _ O3.out)
  have b4 := below_alloc w3 (.cells #[.bool fb, .int .i64 3, .int .i64 0, .slice none 0 0, .slice none 0 0] 36)
  have R4 := Lib.hid (R3.out.below b4)
  have KY4 := Lib.hid (HYk.out.below b4)
  have On4 := Lib.hid ((HO.out _ O3.out).trans (Only.of_below b4))
  clear b4
  go_wp2_with (refine wpList_store_row rfl 36 _ _ rfl w.heap.size z5 rfl rfl _ _ KY4.out sizeR rfl (one5 _ _ _ _ _ _ _ _ _) ?_)
  refine bodyPost_ret (v := .tuple #[.agg z5, .int .i64 11]) (results_cell2 rfl _ _ w.heap.size 36 z5 _ _ rfl rfl (setRow_heap _ _ _ _ _ _ KY4.out) Tryd.underlying36 rfl sizeR) rfl ?_
  exact end_err On4.out (Nat.le_refl _) HG.out R4.out (by decide)

set_option maxHeartbeats 4000000 in
set_option maxRecDepth 100000 in
theorem rhead_sto (h : rr w g s a) (hs : s.size ≤ 281474976710656) (ha : a ≤ 8 * s.size) (hl : ¬ 8 * s.size - a < 3) (hk : peekN (num s.data.toList) (a + 1) 2 = 0) : Calls Tryd.prog 36 #[.pointer (some ⟨g, 0, none⟩)] w (rHead g s a w) := by
  unfold rHead
  have HSM := Lib.hid (show (headM (num s.data.toList) (8 * s.size) a).1 = (stoM (num s.data.toList) (8 * s.size) (a + 3)).1 ∧ ((stoM (num s.data.toList) (8 * s.size) (a + 3)).1 = 0 → headM (num s.data.toList) (8 * s.size) a = (0, ⟨decide (peekN (num s.data.toList) a 1 = 1), 0, (stoM (num s.data.toList) (8 * s.size) (a + 3)).2.1, [], []⟩, (stoM (num s.data.toList) (8 * s.size) (a + 3)).2.2)) ∧ ((stoM (num s.data.toList) (8 * s.size) (a + 3)).1 ≠ 0 → (headM (num s.data.toList) (8 * s.size) a).2.1 = Hd.zero) from by
    by_cases e : (stoM (num s.data.toList) (8 * s.size) (a + 3)).1 = 0
    · have hh := head_sto hl hk e
      exact ⟨by rw [hh, e], fun _ => hh, fun h => absurd e h⟩
    · have hh := head_sto_no hl hk e
      exact ⟨by rw [hh], fun h => absurd h e, fun _ => by rw [hh]⟩)
  obtain ⟨w1, hw1⟩ : ∃ w1, w1 = w.alloc (.cells z5 36) := ⟨_, rfl⟩
  have b1 : Below w.heap.size w w1 := by rw [hw1]; exact below_alloc _ _
  have kY : Blk w1 w.heap.size 36 z5 := by rw [hw1]; exact Blk.fresh _ _ _
  have hgl : g < w.heap.size := h.lt
  have HG := Lib.hid hgl
  have H1 : Hid (rr w1 g s a) := Lib.hid (h.below b1)
  have HY : Hid (∀ u, Only (At g) w1 u → Blk u w.heap.size 36 z5) := Lib.hid (fun u o => kY.only o (fun e => by have : w.heap.size = g := e; omega))
  have HO : Hid (∀ u, Only (At g) w1 u → Only (At g) w u) := Lib.hid (fun u o => (Only.of_below b1).trans o)
  have HSz : Hid (∀ u, Only (At g) w1 u → w.heap.size + 1 ≤ u.heap.size) := Lib.hid (fun u o => by have := o.size; rw [hw1, size_alloc] at this; exact this)
  have HS := Lib.hid hs
  have hp1 := peekN_lt (num s.data.toList) a 1
  obtain ⟨x, hx⟩ : ∃ x, x = peekN (num s.data.toList) a 1 := ⟨_, rfl⟩
  have HXv := Lib.hid hx
  obtain ⟨fb, hfb⟩ : ∃ fb : Bool, fb = decide (peekN (num s.data.toList) a 1 = 1) := ⟨_, rfl⟩
  have HFB := Lib.hid hfb
  have e1 : ((x : Int) == 1) = fb := by rw [hfb, Bool.eq_iff_iff, ← hx]; simp; omega
  have HK := Lib.hid hk
  have HB3 := Lib.hid (show a + 1 + 2 ≤ 8 * s.size by omega)
  have HB1 := Lib.hid (show a + 1 ≤ 8 * s.size by omega)
  clear b1 kY hgl h hs hp1 hx hfb hk hl ha
  go_enter Tryd.func36, Tryd.ntmps36
  go_wp2_with fail
  rw [← hw1]
  clear hw1
  refine (rBits_has (m := 1) rfl (by omega) H1.out HS.out HB1.out).mono ?_
  rintro e w2 ⟨rfl, r2, o2⟩
  rw [← HXv.out]
  have R2 := Lib.hid r2; have O2 := Lib.hid o2; clear r2 o2
  go_wp2_with fail
  refine (rBits_has (m := 2) rfl (by omega) R2.out HS.out HB3.out).mono ?_
  rintro e w3 ⟨rfl, r3, o3⟩
  rw [HK.out, show ((0 : Nat) : Int) = 0 from rfl]
  have R3 : Hid (rr w3 g s (a + 3)) := Lib.hid r3
  have O3 := Lib.hid (O2.out.trans o3)
  clear r3 o3
  have HYk := Lib.hid (HY.out _ O3.out)
  have k4 := Blk.fresh w3 36 #[.bool fb, .int .i64 0, .int .i64 0, .slice none 0 0, .slice none 0 0]
  have b4 := below_alloc w3 (.cells #[.bool fb, .int .i64 0, .int .i64 0, .slice none 0 0, .slice none 0 0] 36)
  obtain ⟨w4, hw4⟩ : ∃ w4, w4 = w3.alloc (.cells #[.bool fb, .int .i64 0, .int .i64 0, .slice none 0 0, .slice none 0 0] 36) := ⟨_, rfl⟩
  rw [← hw4] at k4 b4
  have K4 := Lib.hid k4
  have R4 := Lib.hid (R3.out.below b4)
  have KY4 := Lib.hid (HYk.out.below b4)
  have On4 := Lib.hid ((HO.out _ O3.out).trans (Only.of_below b4))
  have S3 : Hid (w.heap.size + 1 ≤ w3.heap.size) := Lib.hid (HSz.out _ O3.out)
  clear k4 b4 R3 HYk HY HO HSz O2 O3 R2 H1
  have HA3 : Hid (a + 3 ≤ 8 * s.size) := Lib.hid (by have := HB3.out; omega)
  have hc := rstored_any fb 0 R4.out HS.out HA3.out
  rw [show (((0 : Nat)) : Int) = (0 : Int) from rfl] at hc
  have HCl := Lib.hid hc
  clear hc
  go_wp2_with fail
  rw [← hw4]
  refine HCl.out.mono ?_
  rintro e w5 ⟨b5, k5, z5', A1, n1, c1, A2, n2, c2, rfl, i5, r5, ra5, o5⟩
  have I5 := Lib.hid i5
  have R5 := Lib.hid r5
  have RA5 := Lib.hid ra5
  have On5 := Lib.hid (On4.out.trans o5)
  have KY5 := Lib.hid (KY4.out.only o5 (fun e => by have : w.heap.size = g := e; have := HG.out; omega))
  obtain ⟨er, her⟩ : ∃ er, er = (stoM (num s.data.toList) (8 * s.size) (a + 3)).1 := ⟨_, rfl⟩
  have HER := Lib.hid her
  rw [← her]
  clear i5 r5 ra5 o5 her hw4
  go_wp2_with (refine wpList_store_row rfl 36 _ _ rfl w.heap.size #[.bool b5, .int .i64 k5, .int .i64 z5', .slice A1 n1 c1, .slice A2 n2 c2] rfl rfl _ _ KY5.out sizeR rfl (one5 _ _ _ _ _ _ _ _ _) ?_)
  refine bodyPost_ret (v := .tuple #[.agg #[.bool b5, .int .i64 k5, .int .i64 z5', .slice A1 n1 c1, .slice A2 n2 c2], .int .i64 er]) (results_cell2 rfl _ _ w.heap.size 36 _ _ _ rfl rfl (setRow_heap _ _ _ _ _ _ KY5.out) Tryd.underlying36 rfl sizeR) rfl ?_
  have h1 := HSM.out.1
  rw [← HER.out] at h1
  rw [h1]
  refine end_pass On5.out (Nat.le_refl _) HG.out KY5.out I5.out ?_ (fun e0 => ?_) RA5.out
  · rw [← HER.out]
    by_cases e0 : er = 0
    · rw [if_pos e0, if_pos e0, (HSM.out.2.1 (HER.out.symm.trans e0))]
      rw [← HFB.out]
    · rw [if_neg e0, if_neg e0]
  · rw [HSM.out.2.1 (HER.out.symm.trans e0)]
    exact R5.out (HER.out.symm.trans e0)

set_option maxHeartbeats 4000000 in
set_option maxRecDepth 100000 in
theorem rhead_dyn (h : rr w g s a) (hs : s.size ≤ 281474976710656) (ha : a ≤ 8 * s.size) (hl : ¬ 8 * s.size - a < 3) (hk : peekN (num s.data.toList) (a + 1) 2 = 2) : Calls Tryd.prog 36 #[.pointer (some ⟨g, 0, none⟩)] w (rHead g s a w) := by
  unfold rHead
  have HSM := Lib.hid (show (headM (num s.data.toList) (8 * s.size) a).1 = (dynM (num s.data.toList) (8 * s.size) (a + 3)).1 ∧ ((dynM (num s.data.toList) (8 * s.size) (a + 3)).1 = 0 → headM (num s.data.toList) (8 * s.size) a = (0, ⟨decide (peekN (num s.data.toList) a 1 = 1), 2, 0, (dynM (num s.data.toList) (8 * s.size) (a + 3)).2.1.1, (dynM (num s.data.toList) (8 * s.size) (a + 3)).2.1.2⟩, (dynM (num s.data.toList) (8 * s.size) (a + 3)).2.2)) ∧ ((dynM (num s.data.toList) (8 * s.size) (a + 3)).1 ≠ 0 → (headM (num s.data.toList) (8 * s.size) a).2.1 = Hd.zero) from by
    by_cases e : (dynM (num s.data.toList) (8 * s.size) (a + 3)).1 = 0
    · have hh := head_dyn hl hk e
      exact ⟨by rw [hh, e], fun _ => hh, fun h => absurd e h⟩
    · have hh := head_dyn_no hl hk e
      exact ⟨by rw [hh], fun h => absurd h e, fun _ => by rw [hh]⟩)
  obtain ⟨w1, hw1⟩ : ∃ w1, w1 = w.alloc (.cells z5 36) := ⟨_, rfl⟩
  have b1 : Below w.heap.size w w1 := by rw [hw1]; exact below_alloc _ _
  have kY : Blk w1 w.heap.size 36 z5 := by rw [hw1]; exact Blk.fresh _ _ _
  have hgl : g < w.heap.size := h.lt
  have HG := Lib.hid hgl
  have H1 : Hid (rr w1 g s a) := Lib.hid (h.below b1)
  have HY : Hid (∀ u, Only (At g) w1 u → Blk u w.heap.size 36 z5) := Lib.hid (fun u o => kY.only o (fun e => by have : w.heap.size = g := e; omega))
  have HO : Hid (∀ u, Only (At g) w1 u → Only (At g) w u) := Lib.hid (fun u o => (Only.of_below b1).trans o)
  have HSz : Hid (∀ u, Only (At g) w1 u → w.heap.size + 1 ≤ u.heap.size) := Lib.hid (fun u o => by have := o.size; rw [hw1, size_alloc] at this; exact this)
  have HS := Lib.hid hs
  have hp1 := peekN_lt (num s.data.toList) a 1
  obtain ⟨x, hx⟩ : ∃ x, x = peekN (num s.data.toList) a 1 := ⟨_, rfl⟩
  have HXv := Lib.hid hx
  obtain ⟨fb, hfb⟩ : ∃ fb : Bool, fb = decide (peekN (num s.data.toList) a 1 = 1) := ⟨_, rfl⟩
  have HFB := Lib.hid hfb
  have e1 : ((x : Int) == 1) = fb := by rw [hfb, Bool.eq_iff_iff, ← hx]; simp; omega
  have HK := Lib.hid hk
  have HB3 := Lib.hid (show a + 1 + 2 ≤ 8 * s.size by omega)
  have HB1 := Lib.hid (show a + 1 ≤ 8 * s.size by omega)
  clear b1 kY hgl h hs hp1 hx hfb hk hl ha
  go_enter Tryd.func36, Tryd.ntmps36
  go_wp2_with fail
  rw [← hw1]
  clear hw1
  refine (rBits_has (m := 1) rfl (by omega) H1.out HS.out HB1.out).mono ?_
  rintro e w2 ⟨rfl, r2, o2⟩
  rw [← HXv.out]
  have R2 := Lib.hid r2; have O2 := Lib.hid o2; clear r2 o2
  go_wp2_with fail
  refine (rBits_has (m := 2) rfl (by omega) R2.out HS.out HB3.out).mono ?_
  rintro e w3 ⟨rfl, r3, o3⟩
  rw [HK.out, show ((2 : Nat) : Int) = 2 from rfl]
  have R3 : Hid (rr w3 g s (a + 3)) := Lib.hid r3
  have O3 := Lib.hid (O2.out.trans o3)
  clear r3 o3
  have HYk := Lib.hid (HY.out _ O3.out)
  have k4 := Blk.fresh w3 36 #[.bool fb, .int .i64 2, .int .i64 0, .slice none 0 0, .slice none 0 0]
  have b4 := below_alloc w3 (.cells #[.bool fb, .int .i64 2, .int .i64 0, .slice none 0 0, .slice none 0 0] 36)
  obtain ⟨w4, hw4⟩ : ∃ w4, w4 = w3.alloc (.cells #[.bool fb, .int .i64 2, .int .i64 0, .slice none 0 0, .slice none 0 0] 36) := ⟨_, rfl⟩
  rw [← hw4] at k4 b4
  have K4 := Lib.hid k4
  have R4 := Lib.hid (R3.out.below b4)
  have KY4 := Lib.hid (HYk.out.below b4)
  have On4 := Lib.hid ((HO.out _ O3.out).trans (Only.of_below b4))
  have S3 : Hid (w.heap.size + 1 ≤ w3.heap.size) := Lib.hid (HSz.out _ O3.out)
  clear k4 b4 R3 HYk HY HO HSz O2 O3 R2 H1
  have HA3 : Hid (a + 3 ≤ 8 * s.size) := Lib.hid (by have := HB3.out; omega)
  have hc := rdynamic_any fb 2 R4.out HS.out HA3.out
  rw [show (((2 : Nat)) : Int) = (2 : Int) from rfl] at hc
  have HCl := Lib.hid hc
  clear hc
  go_wp2_with fail
  rw [← hw4]
  refine HCl.out.mono ?_
  rintro e w5 ⟨b5, k5, z5', A1, n1, c1, A2, n2, c2, rfl, i5, r5, ra5, o5⟩
  have I5 := Lib.hid i5
  have R5 := Lib.hid r5
  have RA5 := Lib.hid ra5
  have On5 := Lib.hid (On4.out.trans o5)
  have KY5 := Lib.hid (KY4.out.only o5 (fun e => by have : w.heap.size = g := e; have := HG.out; omega))
  obtain ⟨er, her⟩ : ∃ er, er = (dynM (num s.data.toList) (8 * s.size) (a + 3)).1 := ⟨_, rfl⟩
  have HER := Lib.hid her
  rw [← her]
  clear i5 r5 ra5 o5 her hw4
  go_wp2_with (refine wpList_store_row rfl 36 _ _ rfl w.heap.size #[.bool b5, .int .i64 k5, .int .i64 z5', .slice A1 n1 c1, .slice A2 n2 c2] rfl rfl _ _ KY5.out sizeR rfl (one5 _ _ _ _ _ _ _ _ _) ?_)
  refine bodyPost_ret (v := .tuple #[.agg #[.bool b5, .int .i64 k5, .int .i64 z5', .slice A1 n1 c1, .slice A2 n2 c2], .int .i64 er]) (results_cell2 rfl _ _ w.heap.size 36 _ _ _ rfl rfl (setRow_heap _ _ _ _ _ _ KY5.out) Tryd.underlying36 rfl sizeR) rfl ?_
  have h1 := HSM.out.1
  rw [← HER.out] at h1
  rw [h1]
  refine end_pass On5.out (Nat.le_refl _) HG.out KY5.out I5.out ?_ (fun e0 => ?_) RA5.out
  · rw [← HER.out]
    by_cases e0 : er = 0
    · rw [if_pos e0, if_pos e0, (HSM.out.2.1 (HER.out.symm.trans e0))]
      rw [← HFB.out]
    · rw [if_neg e0, if_neg e0]
  · rw [HSM.out.2.1 (HER.out.symm.trans e0)]
    exact R5.out (HER.out.symm.trans e0)

set_option maxHeartbeats 4000000 in
set_option maxRecDepth 100000 in
theorem rhead_fix (h : rr w g s a) (hs : s.size ≤ 281474976710656) (ha : a ≤ 8 * s.size) (hl : ¬ 8 * s.size - a < 3) (hk : peekN (num s.data.toList) (a + 1) 2 = 1) : Calls Tryd.prog 36 #[.pointer (some ⟨g, 0, none⟩)] w (rHead g s a w) := by
  unfold rHead
  rw [head_fix hl hk]
  obtain ⟨w1, hw1⟩ : ∃ w1, w1 = w.alloc (.cells z5 36) := ⟨_, rfl⟩
  have b1 : Below w.heap.size w w1 := by rw [hw1]; exact below_alloc _ _
  have kY : Blk w1 w.heap.size 36 z5 := by rw [hw1]; exact Blk.fresh _ _ _
  have hgl : g < w.heap.size := h.lt
  have HG := Lib.hid hgl
  have H1 : Hid (rr w1 g s a) := Lib.hid (h.below b1)
  have HY : Hid (∀ u, Only (At g) w1 u → Blk u w.heap.size 36 z5) := Lib.hid (fun u o => kY.only o (fun e => by have : w.heap.size = g := e; omega))
  have HO : Hid (∀ u, Only (At g) w1 u → Only (At g) w u) := Lib.hid (fun u o => (Only.of_below b1).trans o)
  have HSz : Hid (∀ u, Only (At g) w1 u → w.heap.size + 1 ≤ u.heap.size) := Lib.hid (fun u o => by have := o.size; rw [hw1, size_alloc] at this; exact this)
  have HS := Lib.hid hs
  have hp1 := peekN_lt (num s.data.toList) a 1
  obtain ⟨x, hx⟩ : ∃ x, x = peekN (num s.data.toList) a 1 := ⟨_, rfl⟩
  have HXv := Lib.hid hx
  obtain ⟨fb, hfb⟩ : ∃ fb : Bool, fb = decide (peekN (num s.data.toList) a 1 = 1) := ⟨_, rfl⟩
  have HFB := Lib.hid hfb
  have e1 : ((x : Int) == 1) = fb := by rw [hfb, Bool.eq_iff_iff, ← hx]; simp; omega
  have HK := Lib.hid hk
  have HB3 := Lib.hid (show a + 1 + 2 ≤ 8 * s.size by omega)
  have HB1 := Lib.hid (show a + 1 ≤ 8 * s.size by omega)
  clear b1 kY hgl h hs hp1 hx hfb hk hl ha
  go_enter Tryd.func36, Tryd.ntmps36
  go_wp2_with fail
  rw [← hw1]
  clear hw1
  refine (rBits_has (m := 1) rfl (by omega) H1.out HS.out HB1.out).mono ?_
  rintro e w2 ⟨rfl, r2, o2⟩
  rw [← HXv.out]
  have R2 := Lib.hid r2; have O2 := Lib.hid o2; clear r2 o2
  go_wp2_with fail
  refine (rBits_has (m := 2) rfl (by omega) R2.out HS.out HB3.out).mono ?_
  rintro e w3 ⟨rfl, r3, o3⟩
  rw [HK.out, show ((1 : Nat) : Int) = 1 from rfl]
  have R3 : Hid (rr w3 g s (a + 3)) := Lib.hid r3
  have O3 := Lib.hid (O2.out.trans o3)
  clear r3 o3
  have HYk := Lib.hid (HY.out _ O3.out)
  have k4 := Blk.fresh w3 36 #[.bool fb, .int .i64 1, .int .i64 0, .slice none 0 0, .slice none 0 0]
  have b4 := below_alloc w3 (.cells #[.bool fb, .int .i64 1, .int .i64 0, .slice none 0 0, .slice none 0 0] 36)
  obtain ⟨w4, hw4⟩ : ∃ w4, w4 = w3.alloc (.cells #[.bool fb, .int .i64 1, .int .i64 0, .slice none 0 0, .slice none 0 0] 36) := ⟨_, rfl⟩
  rw [← hw4] at k4 b4
  have K4 := Lib.hid k4
  have R4 := Lib.hid (R3.out.below b4)
  have KY4 := Lib.hid (HYk.out.below b4)
  have On4 := Lib.hid ((HO.out _ O3.out).trans (Only.of_below b4))
  have S3 : Hid (w.heap.size + 1 ≤ w3.heap.size) := Lib.hid (HSz.out _ O3.out)
  clear k4 b4 R3 HYk HY HO HSz O2 O3 R2 H1
  go_wp2_with fail
  rw [← hw4]
  clear hw4
  refine (rFixedLits_any w4).mono ?_
  rintro e w5 ⟨v5, rfl, k5, b5⟩
  obtain ⟨A1, c1, hv5, _⟩ := ints_row k5
  rw [fixL_length] at hv5
  subst hv5
  have kb := K4.out.below b5
  have f3 := kb.frozen 3
  have t3 := kb.cell 3
  obtain ⟨V5, hV5⟩ : ∃ V, V = w5.setCell ⟨w3.heap.size, 3, none⟩ (.slice A1 288 c1) := ⟨_, rfl⟩
  have o5 : Only (fun i => i = w3.heap.size) w5 V5 := by rw [hV5]; exact (Only.refl (fun i => i = w3.heap.size) w5).store (p := ⟨w3.heap.size, 3, none⟩) (.inl rfl) _
  have s34 : w3.heap.size < w4.heap.size := K4.out.lt
  have KB : Hid (Blk V5 w3.heap.size 36 #[.bool fb, .int .i64 1, .int .i64 0, .slice A1 288 c1, .slice none 0 0]) := Lib.hid (by rw [hV5]; exact kb.store 3 _)
  have I5 : Hid (ints V5 w4.heap.size 3 (.slice A1 288 c1) (ofN fixL)) := Lib.hid (k5.only o5 (fun i hi e => by have h1 := (k5.lo i hi).1; have : i = w3.heap.size := e; omega))
  have KY5 := Lib.hid ((KY4.out.below b5).only o5 (fun e => by have : w.heap.size = w3.heap.size := e; have := S3.out; omega))
  have R5 := Lib.hid (Blk.only (R4.out.below b5) o5 (fun e => by have : g = w3.heap.size := e; have := S3.out; have := HG.out; omega))
  have On5 := Lib.hid ((On4.out.trans (Only.of_below b5)).then o5 (fun i hi hlt => by have : i = w3.heap.size := hi; have := S3.out; omega))
  have S5 : Hid (w4.heap.size ≤ V5.heap.size) := Lib.hid (Nat.le_trans b5.size o5.size)
  have S34 := Lib.hid s34
  clear k5 b5 kb o5 s34 R4 KY4 On4 K4
  go_wp2_with fail
  rw [← hV5]
  clear hV5 f3 t3
  refine (rFixedDists_any V5).mono ?_
  rintro e w6 ⟨v6, rfl, k6, b6⟩
  obtain ⟨A2, c2, hv6, _⟩ := ints_row k6
  rw [fixD_length] at hv6
  subst hv6
  have kb := KB.out.below b6
  have f4 := kb.frozen 4
  have t4 := kb.cell 4
  have o6 : Only (fun i => i = w3.heap.size) w6 (w6.setCell ⟨w3.heap.size, 4, none⟩ (.slice A2 32 c2)) := (Only.refl (fun i => i = w3.heap.size) w6).store (p := ⟨w3.heap.size, 4, none⟩) (.inl rfl) _
  have HL : Hid (Blk (w6.setCell ⟨w3.heap.size, 4, none⟩ (.slice A2 32 c2)) w3.heap.size 36 #[.bool fb, .int .i64 1, .int .i64 0, .slice A1 288 c1, .slice A2 32 c2]) := Lib.hid (kb.store 4 _)
  have HY6 := Lib.hid ((KY5.out.below b6).only o6 (fun e => by have : w.heap.size = w3.heap.size := e; have := S3.out; omega))
  have I6 := Lib.hid ((I5.out.below b6).only o6 (fun i hi e => by have h1 := (I5.out.lo i hi).1; have : i = w3.heap.size := e; have := S34.out; omega))
  have J6 := Lib.hid (k6.only o6 (fun i hi e => by have h1 := (k6.lo i hi).1; have : i = w3.heap.size := e; have := S34.out; have := S5.out; omega))
  have R6 := Lib.hid (Blk.only (R5.out.below b6) o6 (fun e => by have : g = w3.heap.size := e; have := S3.out; have := HG.out; omega))
  have On6 := Lib.hid ((On5.out.trans (Only.of_below b6)).then o6 (fun i hi hlt => by have : i = w3.heap.size := hi; have := S3.out; omega))
  clear k6 b6 kb o6 R5 KY5 On5 KB I5
  go_wp2_with (first | (refine wpList_load_row rfl 36 _ rfl w3.heap.size rfl _ _ _ _ HL.out Tryd.underlying36 rfl sizeR ?_) | (refine wpList_store_row rfl 36 _ _ rfl w.heap.size #[.bool fb, .int .i64 1, .int .i64 0, .slice A1 288 c1, .slice A2 32 c2] rfl rfl _ _ HY6.out sizeR rfl (one5 _ _ _ _ _ _ _ _ _) ?_))
  refine bodyPost_ret (v := .tuple #[.agg #[.bool fb, .int .i64 1, .int .i64 0, .slice A1 288 c1, .slice A2 32 c2], .int .i64 0]) (results_cell2 rfl _ _ w.heap.size 36 _ _ _ rfl rfl (setRow_heap _ _ _ _ _ _ HY6.out) Tryd.underlying36 rfl sizeR) rfl ?_
  refine end_pass (hh := ⟨fb, 1, 0, fixL, fixD⟩) On6.out (Nat.le_refl _) HG.out HY6.out ⟨_, _, rfl, lst_of I6.out, lst_of J6.out⟩ ?_ (fun _ => R6.out) ⟨_, R6.out⟩
  rw [if_pos rfl, HFB.out]

theorem rhead_any (h : rr w g s a) (hs : s.size ≤ 281474976710656) (ha : a ≤ 8 * s.size) : Calls Tryd.prog 36 #[.pointer (some ⟨g, 0, none⟩)] w (rHead g s a w) := by
  by_cases hl : 8 * s.size - a < 3
  · exact rhead_short h hs ha hl
  · have hp := peekN_lt (num s.data.toList) (a + 1) 2
    rcases (show peekN (num s.data.toList) (a + 1) 2 = 0 ∨ peekN (num s.data.toList) (a + 1) 2 = 1 ∨ peekN (num s.data.toList) (a + 1) 2 = 2 ∨ peekN (num s.data.toList) (a + 1) 2 = 3 by omega) with k | k | k | k
    · exact rhead_sto h hs ha hl k
    · exact rhead_fix h hs ha hl k
    · exact rhead_dyn h hs ha hl k
    · exact rhead_no h hs ha hl k

/-- What the reference's Read answers. -/
def rReads (g : Nat) (s : ByteArray) (a : Nat) (w : World) (e : Ending) (w' : World) : Prop :=
  ∃ b k z A1 n1 c1 A2 n2 c2, e = .returned (.tuple #[hv b k z (.slice A1 n1 c1) (.slice A2 n2 c2), .int .i64 (headM (num s.data.toList) (8 * s.size) a).1]) ∧
    isH w' (hv b k z (.slice A1 n1 c1) (.slice A2 n2 c2)) (headM (num s.data.toList) (8 * s.size) a).2.1 ∧ rr w' g s (headM (num s.data.toList) (8 * s.size) a).2.2 ∧ Only (At g) w w'
set_option maxHeartbeats 4000000 in
set_option maxRecDepth 100000 in
theorem rRead_all (h : rr w g s a) (hs : s.size ≤ 281474976710656) (ha : a ≤ 8 * s.size) : Calls Tryd.prog 13 #[.pointer (some ⟨g, 0, none⟩)] w (rReads g s a w) := by
  obtain ⟨w1, hw1⟩ : ∃ w1, w1 = w.alloc (.cells z5 36) := ⟨_, rfl⟩
  have b1 : Below w.heap.size w w1 := by rw [hw1]; exact below_alloc _ _
  have kY : Blk w1 w.heap.size 36 z5 := by rw [hw1]; exact Blk.fresh _ _ _
  have hgl : g < w.heap.size := h.lt
  have HG := Lib.hid hgl
  have h1 : rr w1 g s a := h.below b1
  have s1 : w1.heap.size = w.heap.size + 1 := by rw [hw1, size_alloc]
  have HHd := Lib.hid (rhead_any h1 hs ha)
  have KY1 := Lib.hid kY
  have B1 := Lib.hid b1
  have S1 := Lib.hid s1
  have c1r := h1.c1
  rw [hw1] at c1r
  unfold rHead at HHd
  obtain ⟨er, her⟩ : ∃ er, er = (headM (num s.data.toList) (8 * s.size) a).1 := ⟨_, rfl⟩
  have HER := Lib.hid her
  have HERR : Hid (er ≠ 0 → (headM (num s.data.toList) (8 * s.size) a).2.1 = Hd.zero ∧ (headM (num s.data.toList) (8 * s.size) a).2.2 = a) := Lib.hid (fun e => head_err (by rw [← her]; exact e))
  rw [← her] at HHd
  unfold rReads
  rw [← her]
  obtain ⟨HH, hHH⟩ : ∃ HH, HH = (headM (num s.data.toList) (8 * s.size) a).2 := ⟨_, rfl⟩
  rw [← hHH] at HHd HERR ⊢
  clear b1 kY hgl h h1 hs ha s1 her hHH
  go_enter Tryd.func13, Tryd.ntmps13
  go_wp2_with fail
  rw [← hw1]
  clear hw1 c1r
  refine HHd.out.mono ?_
  rintro e w2 ⟨b, k, z, A1, n1, c1, A2, n2, c2, rfl, i2, r2, ra2, o2⟩
  have I2 := Lib.hid i2
  have R2 := Lib.hid r2
  have RA2 := Lib.hid ra2
  have KY2 := Lib.hid (KY1.out.only o2 (fun e => by have : w.heap.size = g := e; have := HG.out; omega))
  have On2 := Lib.hid ((Only.of_below (S := At g) B1.out).trans o2)
  have S2 : Hid (w.heap.size + 1 ≤ w2.heap.size) := Lib.hid (by have := o2.size; have := S1.out; omega)
  clear i2 r2 ra2 o2
  have k3 := Blk.fresh w2 36 #[.bool b, .int .i64 k, .int .i64 z, .slice A1 n1 c1, .slice A2 n2 c2]
  have b3 := below_alloc w2 (.cells #[.bool b, .int .i64 k, .int .i64 z, .slice A1 n1 c1, .slice A2 n2 c2] 36)
  obtain ⟨w3, hw3⟩ : ∃ w3, w3 = w2.alloc (.cells #[.bool b, .int .i64 k, .int .i64 z, .slice A1 n1 c1, .slice A2 n2 c2] 36) := ⟨_, rfl⟩
  rw [← hw3] at k3 b3
  have K3 := Lib.hid k3
  have KY3 := Lib.hid (KY2.out.below b3)
  have I3 := Lib.hid (I2.out.below b3)
  have On3 := Lib.hid (On2.out.trans (Only.of_below b3))
  have HW3 := Lib.hid hw3
  by_cases he : er = 0
  · have R3 := Lib.hid ((R2.out he).below b3)
    have HIE : Hid ((if er = 0 then HH.1 else Hd.zero) = HH.1) := Lib.hid (by rw [if_pos he])
    subst he
    clear k3 b3
    rw [hw3] at K3 KY3
    clear hw3
    go_wp2_with (first | (refine wpList_load_row rfl 36 _ rfl w2.heap.size rfl _ _ _ _ K3.out Tryd.underlying36 rfl sizeR ?_) | (refine wpList_store_row rfl 36 _ _ rfl w.heap.size #[.bool b, .int .i64 k, .int .i64 z, .slice A1 n1 c1, .slice A2 n2 c2] rfl rfl _ _ KY3.out sizeR rfl (one5 _ _ _ _ _ _ _ _ _) ?_))
    refine bodyPost_ret (v := .tuple #[.agg #[.bool b, .int .i64 k, .int .i64 z, .slice A1 n1 c1, .slice A2 n2 c2], .int .i64 0]) (results_cell2 rfl _ _ w.heap.size 36 _ _ _ rfl rfl (setRow_heap _ _ _ _ _ _ KY3.out) Tryd.underlying36 rfl sizeR) rfl ?_
    rw [← HW3.out]
    rw [← HW3.out] at KY3
    have oR : Only (fun i => i = w.heap.size) w3 (w3.setRow w.heap.size #[.bool b, .int .i64 k, .int .i64 z, .slice A1 n1 c1, .slice A2 n2 c2]) := only_row (S := fun i => i = w.heap.size) (Only.refl _ _) rfl _
    refine ⟨b, k, z, A1, n1, c1, A2, n2, c2, rfl, ?_, Blk.only R3.out oR (fun e => by have : g = w.heap.size := e; have := HG.out; omega), only_setRow On3.out (Nat.le_refl _) _⟩
    have hi := I3.out
    rw [HIE.out] at hi
    exact hi.off oR (fun q hq => by
      obtain rfl : q = w.heap.size := hq
      exact ⟨_, _, KY3.out, by decide⟩)
  · obtain ⟨a2, ra⟩ := RA2.out
    have r3 := ra.below b3
    have c1r := r3.c1
    have f1r := r3.f1
    have hne : (er != 0) = true := by simpa using he
    obtain ⟨z1, z2⟩ := HERR.out he
    have hiz : (if er = 0 then HH.1 else Hd.zero) = HH.1 := by rw [if_neg he, z1]
    have HIE := Lib.hid hiz
    have r4 := rr_put r3 (x := (a : Int)) (b := a) rfl
    have oP : Only (At g) w3 (w3.setCell ⟨g, 1, none⟩ (.int .i64 (a : Int))) := (Only.refl _ _).store (p := ⟨g, 1, none⟩) (.inl (At.self g)) _
    have K4 := Lib.hid (K3.out.only oP (fun e => by have : w2.heap.size = g := e; have := HG.out; have := S2.out; omega))
    have KY4 := Lib.hid (KY3.out.only oP (fun e => by have : w.heap.size = g := e; have := HG.out; omega))
    have hi4 := I3.out.off oP (fun q hq => by
      obtain rfl : q = g := hq
      exact ⟨_, _, r3, by decide⟩)
    rw [hiz] at hi4
    have I4 := Lib.hid hi4
    have R4 : Hid (rr (w3.setCell ⟨g, 1, none⟩ (.int .i64 (a : Int))) g s HH.2) := Lib.hid (by rw [z2]; exact r4)
    have On4 := Lib.hid (On3.out.trans oP)
    clear k3 b3 ra r3 z1 z2 hiz r4 oP hi4 he
    rw [hw3] at c1r f1r K4 KY4
    clear hw3
    go_wp2_with (first | (refine wpList_load_row rfl 36 _ rfl w2.heap.size rfl _ _ _ _ K4.out Tryd.underlying36 rfl sizeR ?_) | (refine wpList_store_row rfl 36 _ _ rfl w.heap.size #[.bool b, .int .i64 k, .int .i64 z, .slice A1 n1 c1, .slice A2 n2 c2] rfl rfl _ _ KY4.out sizeR rfl (one5 _ _ _ _ _ _ _ _ _) ?_))
    refine bodyPost_ret (v := .tuple #[.agg #[.bool b, .int .i64 k, .int .i64 z, .slice A1 n1 c1, .slice A2 n2 c2], .int .i64 er]) (results_cell2 rfl _ _ w.heap.size 36 _ _ _ rfl rfl (setRow_heap _ _ _ _ _ _ KY4.out) Tryd.underlying36 rfl sizeR) rfl ?_
    rw [← HW3.out]
    rw [← HW3.out] at KY4
    have oR : Only (fun i => i = w.heap.size) (w3.setCell ⟨g, 1, none⟩ (.int .i64 (a : Int))) ((w3.setCell ⟨g, 1, none⟩ (.int .i64 (a : Int))).setRow w.heap.size #[.bool b, .int .i64 k, .int .i64 z, .slice A1 n1 c1, .slice A2 n2 c2]) := only_row (S := fun i => i = w.heap.size) (Only.refl _ _) rfl _
    refine ⟨b, k, z, A1, n1, c1, A2, n2, c2, rfl, ?_, Blk.only R4.out oR (fun e => by have : g = w.heap.size := e; have := HG.out; omega), only_setRow On4.out (Nat.le_refl _) _⟩
    exact I4.out.off oR (fun q hq => by
      obtain rfl : q = w.heap.size := hq
      exact ⟨_, _, KY4.out, by decide⟩)
end
end Go.Proofs.YtgbdecnaamlekaaDoor.Mi
