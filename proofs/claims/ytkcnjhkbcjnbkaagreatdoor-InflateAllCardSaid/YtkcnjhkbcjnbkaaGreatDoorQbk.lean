/-
  The reference's head and Read: what is read is what the numbers say; with an error the reader stands where it stood.
  The reference's work: a reader and the bytes that are made; put, further, stored.
  The reference's copied.
  The reference's coded.
  Conditions: as each theorem says.
-/
import Derived.Test.YtkcnjhkbcjnbkaaGreatDoorQbj
import Derived.Test.YtkcnjhkbcjnbkaaGreatDoorQat
import Derived.Test.YtkcnjhkbcjnbkaaGreatDoorQaj
import Derived.Test.YtkcnjhkbcjnbkaaGreatDoorQaf
import Derived.Test.YtkcnjhkbcjnbkaaGreatDoorQbh
import Derived.StillTailTactics
namespace Go.Proofs.YtkcnjhkbcjnbkaaGreatDoor.Mi
open Go.RowKit Go.Proofs.YtkcnjhkbcjnbkaaGreatDoor.Vm Go.Proofs.YtkcnjhkbcjnbkaaGreatDoor.Vo Go.Proofs.YtkcnjhkbcjnbkaaGreatDoor.Bm Go.Proofs.YtkcnjhkbcjnbkaaGreatDoor.Bt Go.Proofs.YtkcnjhkbcjnbkaaGreatDoor.Bw Go.Proofs.YtkcnjhkbcjnbkaaGreatDoor.Bp Go.Proofs.YtkcnjhkbcjnbkaaGreatDoor.Bs Go.Proofs.YtkcnjhkbcjnbkaaGreatDoor.Bv Go.Proofs.YtkcnjhkbcjnbkaaGreatDoor.Bx Go.Proofs.YtkcnjhkbcjnbkaaGreatDoor.Na Go.Proofs.YtkcnjhkbcjnbkaaGreatDoor.Nf Go.Proofs.YtkcnjhkbcjnbkaaGreatDoor.Nm Go.Proofs.YtkcnjhkbcjnbkaaGreatDoor.Ni Go.Proofs.YtkcnjhkbcjnbkaaGreatDoor.Ne Go.Proofs.YtkcnjhkbcjnbkaaGreatDoor.Nh Go.Proofs.YtkcnjhkbcjnbkaaGreatDoor.Pm Go.Proofs.YtkcnjhkbcjnbkaaGreatDoor.Pw Go.Proofs.YtkcnjhkbcjnbkaaGreatDoor.Pi Go.Proofs.YtkcnjhkbcjnbkaaGreatDoor.Ko Go.Proofs.YtkcnjhkbcjnbkaaGreatDoor.Ka Go.Proofs.YtkcnjhkbcjnbkaaGreatDoor.Kb Go.Proofs.YtkcnjhkbcjnbkaaGreatDoor.Km Go.Proofs.YtkcnjhkbcjnbkaaGreatDoor.Kw Go.Proofs.YtkcnjhkbcjnbkaaGreatDoor.Ks Go.Proofs.YtkcnjhkbcjnbkaaGreatDoor.Kc Go.Proofs.YtkcnjhkbcjnbkaaGreatDoor.Kd Go.Proofs.YtkcnjhkbcjnbkaaGreatDoor.Ke Go.Proofs.YtkcnjhkbcjnbkaaGreatDoor.Ky Go.Proofs.YtkcnjhkbcjnbkaaGreatDoor.Kx Go.Proofs.YtkcnjhkbcjnbkaaGreatDoor.Ku Go.Proofs.YtkcnjhkbcjnbkaaGreatDoor.Kh Go.Proofs.YtkcnjhkbcjnbkaaGreatDoor.Be Go.Proofs.YtkcnjhkbcjnbkaaGreatDoor.Ki Go.Proofs.YtkcnjhkbcjnbkaaGreatDoor.Kl Go.Proofs.YtkcnjhkbcjnbkaaGreatDoor.Kn Go.Proofs.YtkcnjhkbcjnbkaaGreatDoor.Ma Go.Proofs.YtkcnjhkbcjnbkaaGreatDoor.Kp Go.Proofs.YtkcnjhkbcjnbkaaGreatDoor.Br Go.Proofs.YtkcnjhkbcjnbkaaGreatDoor.Bq Go.Proofs.YtkcnjhkbcjnbkaaGreatDoor.Pr Go.Proofs.YtkcnjhkbcjnbkaaGreatDoor.Me Go.Proofs.YtkcnjhkbcjnbkaaGreatDoor.Mf Go.Proofs.YtkcnjhkbcjnbkaaGreatDoor.Mg Go.Proofs.YtkcnjhkbcjnbkaaGreatDoor.Kz Go.Proofs.YtkcnjhkbcjnbkaaGreatDoor.Mh

section
variable {w : World} {g : Nat} {s : ByteArray} {a : Nat}
theorem rdynamic_any (fb : Bool) (k : Nat) (h : rr w g s a) (hs : s.size ≤ 281474976710656) (ha : a ≤ 8 * s.size) :
    Calls Tryz.prog 51 #[.pointer (some ⟨g, 0, none⟩), hv fb (k : Int) 0 (.slice none 0 0) (.slice none 0 0)] w (rDyn g s a fb k w) := by
  by_cases hl : 8 * s.size - a < 14
  · exact rdyn_short fb k h hs ha hl
  · by_cases hb : 29 < peekN (num s.data.toList) a 5 ∨ 29 < peekN (num s.data.toList) (a + 5) 5
    · exact rdyn_big fb k h hs ha hl hb
    · exact rdyn_more fb k h hs ha hl hb

theorem end_pass {u : World} {er : Int} {h hh : Hd} {p Y : Nat} {b : Bool} {k z : Int} {A1 A2 : Option Addr} {n1 c1 n2 c2 : Nat} (HO : Only (At g) w u) (hY : w.heap.size ≤ Y) (hg : g < w.heap.size) (kY : Blk u Y 68 z5)
    (i : isH u (hv b k z (.slice A1 n1 c1) (.slice A2 n2 c2)) hh) (e : hh = if er = 0 then h else Hd.zero) (hr : er = 0 → rr u g s p) (ha : ∃ a', rr u g s a') :
    rHd g s w er h p (.returned (.tuple #[.agg #[.bool b, .int .i64 k, .int .i64 z, .slice A1 n1 c1, .slice A2 n2 c2], .int .i64 er])) (u.setRow Y #[.bool b, .int .i64 k, .int .i64 z, .slice A1 n1 c1, .slice A2 n2 c2]) := by
  have o : Only (fun i => i = Y) u (u.setRow Y #[.bool b, .int .i64 k, .int .i64 z, .slice A1 n1 c1, .slice A2 n2 c2]) := only_row (S := fun i => i = Y) (Only.refl _ _) rfl _
  have hgY : ¬ g = Y := by omega
  refine ⟨b, k, z, A1, n1, c1, A2, n2, c2, rfl, ?_, fun e0 => Blk.only (hr e0) o hgY, ?_, only_setRow HO hY _⟩
  · rw [← e]
    exact i.off o (fun q hq => by
      obtain rfl : q = Y := hq
      exact ⟨_, _, kY, by decide⟩)
  · obtain ⟨a', r⟩ := ha
    exact ⟨a', Blk.only r o hgY⟩

/-- What the reference's head answers. -/
def rHead (g : Nat) (s : ByteArray) (a : Nat) (w : World) : Ending → World → Prop := rHd g s w (headM (num s.data.toList) (8 * s.size) a).1 (headM (num s.data.toList) (8 * s.size) a).2.1 (headM (num s.data.toList) (8 * s.size) a).2.2

set_option maxHeartbeats 4000000 in
set_option maxRecDepth 100000 in
theorem rhead_short (h : rr w g s a) (hs : s.size ≤ 281474976710656) (ha : a ≤ 8 * s.size) (hl : 8 * s.size - a < 3) : Calls Tryz.prog 34 #[.pointer (some ⟨g, 0, none⟩)] w (rHead g s a w) := by
  unfold rHead
  rw [head_short hl]
  obtain ⟨w1, hw1⟩ : ∃ w1, w1 = w.alloc (.cells z5 68) := ⟨_, rfl⟩
  have b1 : Below w.heap.size w w1 := by rw [hw1]; exact below_alloc _ _
  have kY : Blk w1 w.heap.size 68 z5 := by rw [hw1]; exact Blk.fresh _ _ _
  have hgl : g < w.heap.size := h.lt
  have HG := Lib.hid hgl
  have H1 : Hid (rr w1 g s a) := Lib.hid (h.below b1)
  have HY : Hid (∀ u, Only (At g) w1 u → Blk u w.heap.size 68 z5) := Lib.hid (fun u o => kY.only o (fun e => by have : w.heap.size = g := e; omega))
  have HO : Hid (∀ u, Only (At g) w1 u → Only (At g) w u) := Lib.hid (fun u o => (Only.of_below b1).trans o)
  have HS := Lib.hid hs
  clear b1 kY hgl h hs
  by_cases h1 : 8 * s.size - a < 1
  · go_enter Tryz.func34, Tryz.ntmps34
    go_wp2_with fail
    rw [← hw1]
    clear hw1
    refine (rBits_short (m := 1) rfl (by omega) H1.out HS.out ha h1).mono ?_
    rintro e w2 ⟨rfl, r2, o2⟩
    have R2 := Lib.hid r2; have O2 := Lib.hid o2; clear r2 o2
    go_wp2_with fail
    refine (rBits_may (m := 2) rfl (by omega) R2.out HS.out ha).mono ?_
    rintro e w3 ⟨v3, er3, a3, rfl, r3, ha3, o3⟩
    have R3 := Lib.hid r3; have O3 := Lib.hid (O2.out.trans o3); clear r3 o3 ha3
    have HY3 := Lib.hid (HY.out _ O3.out)
    go_wp2_with (refine wpList_store_row rfl 68 _ _ rfl w.heap.size z5 rfl rfl _ _ HY3.out sizeR rfl (one5 _ _ _ _ _ _ _ _ _) ?_)
    refine bodyPost_ret (v := .tuple #[.agg z5, .int .i64 2]) (results_cell2 rfl _ _ w.heap.size 68 z5 _ _ rfl rfl (setRow_heap _ _ _ _ _ _ HY3.out) Tryz.underlying68 rfl sizeR) rfl ?_
    exact end_err (HO.out _ O3.out) (Nat.le_refl _) HG.out R3.out (by decide)
  · obtain ⟨x, hx⟩ : ∃ x, x = peekN (num s.data.toList) a 1 := ⟨_, rfl⟩
    have HXv := Lib.hid hx
    clear hx
    go_enter Tryz.func34, Tryz.ntmps34
    go_wp2_with fail
    rw [← hw1]
    clear hw1
    refine (rBits_has (m := 1) rfl (by omega) H1.out HS.out (by omega)).mono ?_
    rintro e w2 ⟨rfl, r2, o2⟩
    rw [← HXv.out]
    have R2 := Lib.hid r2; have O2 := Lib.hid o2; clear r2 o2
    go_wp2_with fail
    refine (rBits_short (m := 2) rfl (by omega) R2.out HS.out (by omega) (by omega)).mono ?_
    rintro e w3 ⟨rfl, r3, o3⟩
    have R3 := Lib.hid r3; have O3 := Lib.hid (O2.out.trans o3); clear r3 o3
    have HY3 := Lib.hid (HY.out _ O3.out)
    go_wp2_with (refine wpList_store_row rfl 68 _ _ rfl w.heap.size z5 rfl rfl _ _ HY3.out sizeR rfl (one5 _ _ _ _ _ _ _ _ _) ?_)
    refine bodyPost_ret (v := .tuple #[.agg z5, .int .i64 2]) (results_cell2 rfl _ _ w.heap.size 68 z5 _ _ rfl rfl (setRow_heap _ _ _ _ _ _ HY3.out) Tryz.underlying68 rfl sizeR) rfl ?_
    exact end_err (HO.out _ O3.out) (Nat.le_refl _) HG.out R3.out (by decide)

set_option maxHeartbeats 4000000 in
set_option maxRecDepth 100000 in
theorem rhead_no (h : rr w g s a) (hs : s.size ≤ 281474976710656) (ha : a ≤ 8 * s.size) (hl : ¬ 8 * s.size - a < 3) (hk : peekN (num s.data.toList) (a + 1) 2 = 3) : Calls Tryz.prog 34 #[.pointer (some ⟨g, 0, none⟩)] w (rHead g s a w) := by
  unfold rHead
  rw [head_no hl hk]
  obtain ⟨w1, hw1⟩ : ∃ w1, w1 = w.alloc (.cells z5 68) := ⟨_, rfl⟩
  have b1 : Below w.heap.size w w1 := by rw [hw1]; exact below_alloc _ _
  have kY : Blk w1 w.heap.size 68 z5 := by rw [hw1]; exact Blk.fresh _ _ _
  have hgl : g < w.heap.size := h.lt
  have HG := Lib.hid hgl
  have H1 : Hid (rr w1 g s a) := Lib.hid (h.below b1)
  have HY : Hid (∀ u, Only (At g) w1 u → Blk u w.heap.size 68 z5) := Lib.hid (fun u o => kY.only o (fun e => by have : w.heap.size = g := e; omega))
  have HO : Hid (∀ u, Only (At g) w1 u → Only (At g) w u) := Lib.hid (fun u o => (Only.of_below b1).trans o)
  have HSz : Hid (∀ u, Only (At g) w1 u → w.heap.size + 1 ≤ u.heap.size) := Lib.hid (fun u o => by have := o.size; rw [hw1, size_alloc] at this; exact this)
  have HS := Lib.hid hs
  have hp1 := peekN_lt (num s.data.toList) a 1
  obtain ⟨x, hx⟩ : ∃ x, x = peekN (num s.data.toList) a 1 := ⟨_, rfl⟩
  have HXv := Lib.hid hx
  obtain ⟨fb, hfb⟩ : ∃ fb : Bool, fb = decide (peekN (num s.data.toList) a 1 = 1) := ⟨_, rfl⟩
  have HFB := Lib.hid hfb
  have e1 : ((x : Int) == 1) = fb := by rw [hfb, Bool.eq_iff_iff, ← hx]; simp; omega
  have HK := Lib.hid hk
  have HB3 := Lib.hid (show a + 1 + 2 ≤ 8 * s.size by omega)
  have HB1 := Lib.hid (show a + 1 ≤ 8 * s.size by omega)
  clear b1 kY hgl h hs hp1 hx hfb hk hl ha
  go_enter Tryz.func34, Tryz.ntmps34
  go_wp2_with fail
  rw [← hw1]
  clear hw1
  refine (rBits_has (m := 1) rfl (by omega) H1.out HS.out HB1.out).mono ?_
  rintro e w2 ⟨rfl, r2, o2⟩
  rw [← HXv.out]
  have R2 := Lib.hid r2; have O2 := Lib.hid o2; clear r2 o2
  go_wp2_with fail
  refine (rBits_has (m := 2) rfl (by omega) R2.out HS.out HB3.out).mono ?_
  rintro e w3 ⟨rfl, r3, o3⟩
  rw [HK.out, show ((3 : Nat) : Int) = 3 from rfl]
  have R3 : Hid (rr w3 g s (a + 3)) := Lib.hid r3
  have O3 := Lib.hid (O2.out.trans o3)
  clear r3 o3
  have HYk := Lib.hid (HY.out _ O3.out)
  have b4 := below_alloc w3 (.cells #[.bool fb, .int .i64 3, .int .i64 0, .slice none 0 0, .slice none 0 0] 68)
  have R4 := Lib.hid (R3.out.below b4)
  have KY4 := Lib.hid (HYk.out.below b4)
  have On4 := Lib.hid ((HO.out _ O3.out).trans (Only.of_below b4))
  clear b4
  go_wp2_with (refine wpList_store_row rfl 68 _ _ rfl w.heap.size z5 rfl rfl _ _ KY4.out sizeR rfl (one5 _ _ _ _ _ _ _ _ _) ?_)
  refine bodyPost_ret (v := .tuple #[.agg z5, .int .i64 11]) (results_cell2 rfl _ _ w.heap.size 68 z5 _ _ rfl rfl (setRow_heap _ _ _ _ _ _ KY4.out) Tryz.underlying68 rfl sizeR) rfl ?_
  exact end_err On4.out (Nat.le_refl _) HG.out R4.out (by decide)

set_option maxHeartbeats 4000000 in
set_option maxRecDepth 100000 in
theorem rhead_sto (h : rr w g s a) (hs : s.size ≤ 281474976710656) (ha : a ≤ 8 * s.size) (hl : ¬ 8 * s.size - a < 3) (hk : peekN (num s.data.toList) (a + 1) 2 = 0) : Calls Tryz.prog 34 #[.pointer (some ⟨g, 0, none⟩)] w (rHead g s a w) := by
  unfold rHead
  have HSM := Lib.hid (show (headM (num s.data.toList) (8 * s.size) a).1 = (stoM (num s.data.toList) (8 * s.size) (a + 3)).1 ∧ ((stoM (num s.data.toList) (8 * s.size) (a + 3)).1 = 0 → headM (num s.data.toList) (8 * s.size) a = (0, ⟨decide (peekN (num s.data.toList) a 1 = 1), 0, (stoM (num s.data.toList) (8 * s.size) (a + 3)).2.1, [], []⟩, (stoM (num s.data.toList) (8 * s.size) (a + 3)).2.2)) ∧ ((stoM (num s.data.toList) (8 * s.size) (a + 3)).1 ≠ 0 → (headM (num s.data.toList) (8 * s.size) a).2.1 = Hd.zero) from by
    by_cases e : (stoM (num s.data.toList) (8 * s.size) (a + 3)).1 = 0
    · have hh := head_sto hl hk e
      exact ⟨by rw [hh, e], fun _ => hh, fun h => absurd e h⟩
    · have hh := head_sto_no hl hk e
      exact ⟨by rw [hh], fun h => absurd h e, fun _ => by rw [hh]⟩)
  obtain ⟨w1, hw1⟩ : ∃ w1, w1 = w.alloc (.cells z5 68) := ⟨_, rfl⟩
  have b1 : Below w.heap.size w w1 := by rw [hw1]; exact below_alloc _ _
  have kY : Blk w1 w.heap.size 68 z5 := by rw [hw1]; exact Blk.fresh _ _ _
  have hgl : g < w.heap.size := h.lt
  have HG := Lib.hid hgl
  have H1 : Hid (rr w1 g s a) := Lib.hid (h.below b1)
  have HY : Hid (∀ u, Only (At g) w1 u → Blk u w.heap.size 68 z5) := Lib.hid (fun u o => kY.only o (fun e => by have : w.heap.size = g := e; omega))
  have HO : Hid (∀ u, Only (At g) w1 u → Only (At g) w u) := Lib.hid (fun u o => (Only.of_below b1).trans o)
  have HSz : Hid (∀ u, Only (At g) w1 u → w.heap.size + 1 ≤ u.heap.size) := Lib.hid (fun u o => by have := o.size; rw [hw1, size_alloc] at this; exact this)
  have HS := Lib.hid hs
  have hp1 := peekN_lt (num s.data.toList) a 1
  obtain ⟨x, hx⟩ : ∃ x, x = peekN (num s.data.toList) a 1 := ⟨_, rfl⟩
  have HXv := Lib.hid hx
  obtain ⟨fb, hfb⟩ : ∃ fb : Bool, fb = decide (peekN (num s.data.toList) a 1 = 1) := ⟨_, rfl⟩
  have HFB := Lib.hid hfb
  have e1 : ((x : Int) == 1) = fb := by rw [hfb, Bool.eq_iff_iff, ← hx]; simp; omega
  have HK := Lib.hid hk
  have HB3 := Lib.hid (show a + 1 + 2 ≤ 8 * s.size by omega)
  have HB1 := Lib.hid (show a + 1 ≤ 8 * s.size by omega)
  clear b1 kY hgl h hs hp1 hx hfb hk hl ha
  go_enter Tryz.func34, Tryz.ntmps34
  go_wp2_with fail
  rw [← hw1]
  clear hw1
  refine (rBits_has (m := 1) rfl (by omega) H1.out HS.out HB1.out).mono ?_
  rintro e w2 ⟨rfl, r2, o2⟩
  rw [← HXv.out]
  have R2 := Lib.hid r2; have O2 := Lib.hid o2; clear r2 o2
  go_wp2_with fail
  refine (rBits_has (m := 2) rfl (by omega) R2.out HS.out HB3.out).mono ?_
  rintro e w3 ⟨rfl, r3, o3⟩
  rw [HK.out, show ((0 : Nat) : Int) = 0 from rfl]
  have R3 : Hid (rr w3 g s (a + 3)) := Lib.hid r3
  have O3 := Lib.hid (O2.out.trans o3)
  clear r3 o3
  have HYk := Lib.hid (HY.out _ O3.out)
  have k4 := Blk.fresh w3 68 #[.bool fb, .int .i64 0, .int .i64 0, .slice none 0 0, .slice none 0 0]
  have b4 := below_alloc w3 (.cells #[.bool fb, .int .i64 0, .int .i64 0, .slice none 0 0, .slice none 0 0] 68)
  obtain ⟨w4, hw4⟩ : ∃ w4, w4 = w3.alloc (.cells #[.bool fb, .int .i64 0, .int .i64 0, .slice none 0 0, .slice none 0 0] 68) := ⟨_, rfl⟩
  rw [← hw4] at k4 b4
  have K4 := Lib.hid k4
  have R4 := Lib.hid (R3.out.below b4)
  have KY4 := Lib.hid (HYk.out.below b4)
  have On4 := Lib.hid ((HO.out _ O3.out).trans (Only.of_below b4))
  have S3 : Hid (w.heap.size + 1 ≤ w3.heap.size) := Lib.hid (HSz.out _ O3.out)
  clear k4 b4 R3 HYk HY HO HSz O2 O3 R2 H1
  have HA3 : Hid (a + 3 ≤ 8 * s.size) := Lib.hid (by have := HB3.out; omega)
  have hc := rstored_any fb 0 R4.out HS.out HA3.out
  rw [show (((0 : Nat)) : Int) = (0 : Int) from rfl] at hc
  have HCl := Lib.hid hc
  clear hc
  go_wp2_with fail
  rw [← hw4]
  refine HCl.out.mono ?_
  rintro e w5 ⟨b5, k5, z5', A1, n1, c1, A2, n2, c2, rfl, i5, r5, ra5, o5⟩
  have I5 := Lib.hid i5
  have R5 := Lib.hid r5
  have RA5 := Lib.hid ra5
  have On5 := Lib.hid (On4.out.trans o5)
  have KY5 := Lib.hid (KY4.out.only o5 (fun e => by have : w.heap.size = g := e; have := HG.out; omega))
  obtain ⟨er, her⟩ : ∃ er, er = (stoM (num s.data.toList) (8 * s.size) (a + 3)).1 := ⟨_, rfl⟩
  have HER := Lib.hid her
  rw [← her]
  clear i5 r5 ra5 o5 her hw4
  go_wp2_with (refine wpList_store_row rfl 68 _ _ rfl w.heap.size #[.bool b5, .int .i64 k5, .int .i64 z5', .slice A1 n1 c1, .slice A2 n2 c2] rfl rfl _ _ KY5.out sizeR rfl (one5 _ _ _ _ _ _ _ _ _) ?_)
  refine bodyPost_ret (v := .tuple #[.agg #[.bool b5, .int .i64 k5, .int .i64 z5', .slice A1 n1 c1, .slice A2 n2 c2], .int .i64 er]) (results_cell2 rfl _ _ w.heap.size 68 _ _ _ rfl rfl (setRow_heap _ _ _ _ _ _ KY5.out) Tryz.underlying68 rfl sizeR) rfl ?_
  have h1 := HSM.out.1
  rw [← HER.out] at h1
  rw [h1]
  refine end_pass On5.out (Nat.le_refl _) HG.out KY5.out I5.out ?_ (fun e0 => ?_) RA5.out
  · rw [← HER.out]
    by_cases e0 : er = 0
    · rw [if_pos e0, if_pos e0, (HSM.out.2.1 (HER.out.symm.trans e0))]
      rw [← HFB.out]
    · rw [if_neg e0, if_neg e0]
  · rw [HSM.out.2.1 (HER.out.symm.trans e0)]
    exact R5.out (HER.out.symm.trans e0)

set_option maxHeartbeats 4000000 in
set_option maxRecDepth 100000 in
theorem rhead_dyn (h : rr w g s a) (hs : s.size ≤ 281474976710656) (ha : a ≤ 8 * s.size) (hl : ¬ 8 * s.size - a < 3) (hk : peekN (num s.data.toList) (a + 1) 2 = 2) : Calls Tryz.prog 34 #[.pointer (some ⟨g, 0, none⟩)] w (rHead g s a w) := by
  unfold rHead
  have HSM := Lib.hid (show (headM (num s.data.toList) (8 * s.size) a).1 = (dynM (num s.data.toList) (8 * s.size) (a + 3)).1 ∧ ((dynM (num s.data.toList) (8 * s.size) (a + 3)).1 = 0 → headM (num s.data.toList) (8 * s.size) a = (0, ⟨decide (peekN (num s.data.toList) a 1 = 1), 2, 0, (dynM (num s.data.toList) (8 * s.size) (a + 3)).2.1.1, (dynM (num s.data.toList) (8 * s.size) (a + 3)).2.1.2⟩, (dynM (num s.data.toList) (8 * s.size) (a + 3)).2.2)) ∧ ((dynM (num s.data.toList) (8 * s.size) (a + 3)).1 ≠ 0 → (headM (num s.data.toList) (8 * s.size) a).2.1 = Hd.zero) from by
    by_cases e : (dynM (num s.data.toList) (8 * s.size) (a + 3)).1 = 0
    · have hh := head_dyn hl hk e
      exact ⟨by rw [hh, e], fun _ => hh, fun h => absurd e h⟩
    · have hh := head_dyn_no hl hk e
      exact ⟨by rw [hh], fun h => absurd h e, fun _ => by rw [hh]⟩)
  obtain ⟨w1, hw1⟩ : ∃ w1, w1 = w.alloc (.cells z5 68) := ⟨_, rfl⟩
  have b1 : Below w.heap.size w w1 := by rw [hw1]; exact below_alloc _ _
  have kY : Blk w1 w.heap.size 68 z5 := by rw [hw1]; exact Blk.fresh _ _ _
  have hgl : g < w.heap.size := h.lt
  have HG := Lib.hid hgl
  have H1 : Hid (rr w1 g s a) := Lib.hid (h.below b1)
  have HY : Hid (∀ u, Only (At g) w1 u → Blk u w.heap.size 68 z5) := Lib.hid (fun u o => kY.only o (fun e => by have : w.heap.size = g := e; omega))
  have HO : Hid (∀ u, Only (At g) w1 u → Only (At g) w u) := Lib.hid (fun u o => (Only.of_below b1).trans o)
  have HSz : Hid (∀ u, Only (At g) w1 u → w.heap.size + 1 ≤ u.heap.size) := Lib.hid (fun u o => by have := o.size; rw [hw1, size_alloc] at this; exact this)
  have HS := Lib.hid hs
  have hp1 := peekN_lt (num s.data.toList) a 1
  obtain ⟨x, hx⟩ : ∃ x, x = peekN (num s.data.toList) a 1 := ⟨_, rfl⟩
  have HXv := Lib.hid hx
  obtain ⟨fb, hfb⟩ : ∃ fb : Bool, fb = decide (peekN (num s.data.toList) a 1 = 1) := ⟨_, rfl⟩
  have HFB := Lib.hid hfb
  have e1 : ((x : Int) == 1) = fb := by rw [hfb, Bool.eq_iff_iff, ← hx]; simp; omega
  have HK := Lib.hid hk
  have HB3 := Lib.hid (show a + 1 + 2 ≤ 8 * s.size by omega)
  have HB1 := Lib.hid (show a + 1 ≤ 8 * s.size by omega)
  clear b1 kY hgl h hs hp1 hx hfb hk hl ha
  go_enter Tryz.func34, Tryz.ntmps34
  go_wp2_with fail
  rw [← hw1]
  clear hw1
  refine (rBits_has (m := 1) rfl (by omega) H1.out HS.out HB1.out).mono ?_
  rintro e w2 ⟨rfl, r2, o2⟩
  rw [← HXv.out]
  have R2 := Lib.hid r2; have O2 := Lib.hid o2; clear r2 o2
  go_wp2_with fail
  refine (rBits_has (m := 2) rfl (by omega) R2.out HS.out HB3.out).mono ?_
  rintro e w3 ⟨rfl, r3, o3⟩
  rw [HK.out, show ((2 : Nat) : Int) = 2 from rfl]
  have R3 : Hid (rr w3 g s (a + 3)) := Lib.hid r3
  have O3 := Lib.hid (O2.out.trans o3)
  clear r3 o3
  have HYk := Lib.hid (HY.out _ O3.out)
  have k4 := Blk.fresh w3 68 #[.bool fb, .int .i64 2, .int .i64 0, .slice none 0 0, .slice none 0 0]
  have b4 := below_alloc w3 (.cells #[.bool fb, .int .i64 2, .int .i64 0, .slice none 0 0, .slice none 0 0] 68)
  obtain ⟨w4, hw4⟩ : ∃ w4, w4 = w3.alloc (.cells #[.bool fb, .int .i64 2, .int .i64 0, .slice none 0 0, .slice none 0 0] 68) := ⟨_, rfl⟩
  rw [← hw4] at k4 b4
  have K4 := Lib.hid k4
  have R4 := Lib.hid (R3.out.below b4)
  have KY4 := Lib.hid (HYk.out.below b4)
  have On4 := Lib.hid ((HO.out _ O3.out).trans (Only.of_below b4))
  have S3 : Hid (w.heap.size + 1 ≤ w3.heap.size) := Lib.hid (HSz.out _ O3.out)
  clear k4 b4 R3 HYk HY HO HSz O2 O3 R2 H1
  have HA3 : Hid (a + 3 ≤ 8 * s.size) := Lib.hid (by have := HB3.out; omega)
  have hc := rdynamic_any fb 2 R4.out HS.out HA3.out
  rw [show (((2 : Nat)) : Int) = (2 : Int) from rfl] at hc
  have HCl := Lib.hid hc
  clear hc
  go_wp2_with fail
  rw [← hw4]
  refine HCl.out.mono ?_
  rintro e w5 ⟨b5, k5, z5', A1, n1, c1, A2, n2, c2, rfl, i5, r5, ra5, o5⟩
  have I5 := Lib.hid i5
  have R5 := Lib.hid r5
  have RA5 := Lib.hid ra5
  have On5 := Lib.hid (On4.out.trans o5)
  have KY5 := Lib.hid (KY4.out.only o5 (fun e => by have : w.heap.size = g := e; have := HG.out; omega))
  obtain ⟨er, her⟩ : ∃ er, er = (dynM (num s.data.toList) (8 * s.size) (a + 3)).1 := ⟨_, rfl⟩
  have HER := Lib.hid her
  rw [← her]
  clear i5 r5 ra5 o5 her hw4
  go_wp2_with (refine wpList_store_row rfl 68 _ _ rfl w.heap.size #[.bool b5, .int .i64 k5, .int .i64 z5', .slice A1 n1 c1, .slice A2 n2 c2] rfl rfl _ _ KY5.out sizeR rfl (one5 _ _ _ _ _ _ _ _ _) ?_)
  refine bodyPost_ret (v := .tuple #[.agg #[.bool b5, .int .i64 k5, .int .i64 z5', .slice A1 n1 c1, .slice A2 n2 c2], .int .i64 er]) (results_cell2 rfl _ _ w.heap.size 68 _ _ _ rfl rfl (setRow_heap _ _ _ _ _ _ KY5.out) Tryz.underlying68 rfl sizeR) rfl ?_
  have h1 := HSM.out.1
  rw [← HER.out] at h1
  rw [h1]
  refine end_pass On5.out (Nat.le_refl _) HG.out KY5.out I5.out ?_ (fun e0 => ?_) RA5.out
  · rw [← HER.out]
    by_cases e0 : er = 0
    · rw [if_pos e0, if_pos e0, (HSM.out.2.1 (HER.out.symm.trans e0))]
      rw [← HFB.out]
    · rw [if_neg e0, if_neg e0]
  · rw [HSM.out.2.1 (HER.out.symm.trans e0)]
    exact R5.out (HER.out.symm.trans e0)

set_option maxHeartbeats 4000000 in
set_option maxRecDepth 100000 in
theorem rhead_fix (h : rr w g s a) (hs : s.size ≤ 281474976710656) (ha : a ≤ 8 * s.size) (hl : ¬ 8 * s.size - a < 3) (hk : peekN (num s.data.toList) (a + 1) 2 = 1) : Calls Tryz.prog 34 #[.pointer (some ⟨g, 0, none⟩)] w (rHead g s a w) := by
  unfold rHead
  rw [head_fix hl hk]
  obtain ⟨w1, hw1⟩ : ∃ w1, w1 = w.alloc (.cells z5 68) := ⟨_, rfl⟩
  have b1 : Below w.heap.size w w1 := by rw [hw1]; exact below_alloc _ _
  have kY : Blk w1 w.heap.size 68 z5 := by rw [hw1]; exact Blk.fresh _ _ _
  have hgl : g < w.heap.size := h.lt
  have HG := Lib.hid hgl
  have H1 : Hid (rr w1 g s a) := Lib.hid (h.below b1)
  have HY : Hid (∀ u, Only (At g) w1 u → Blk u w.heap.size 68 z5) := Lib.hid (fun u o => kY.only o (fun e => by have : w.heap.size = g := e; omega))
  have HO : Hid (∀ u, Only (At g) w1 u → Only (At g) w u) := Lib.hid (fun u o => (Only.of_below b1).trans o)
  have HSz : Hid (∀ u, Only (At g) w1 u → w.heap.size + 1 ≤ u.heap.size) := Lib.hid (fun u o => by have := o.size; rw [hw1, size_alloc] at this; exact this)
  have HS := Lib.hid hs
  have hp1 := peekN_lt (num s.data.toList) a 1
  obtain ⟨x, hx⟩ : ∃ x, x = peekN (num s.data.toList) a 1 := ⟨_, rfl⟩
  have HXv := Lib.hid hx
  obtain ⟨fb, hfb⟩ : ∃ fb : Bool, fb = decide (peekN (num s.data.toList) a 1 = 1) := ⟨_, rfl⟩
  have HFB := Lib.hid hfb
  have e1 : ((x : Int) == 1) = fb := by rw [hfb, Bool.eq_iff_iff, ← hx]; simp; omega
  have HK := Lib.hid hk
  have HB3 := Lib.hid (show a + 1 + 2 ≤ 8 * s.size by omega)
  have HB1 := Lib.hid (show a + 1 ≤ 8 * s.size by omega)
  clear b1 kY hgl h hs hp1 hx hfb hk hl ha
  go_enter Tryz.func34, Tryz.ntmps34
  go_wp2_with fail
  rw [← hw1]
  clear hw1
  refine (rBits_has (m := 1) rfl (by omega) H1.out HS.out HB1.out).mono ?_
  rintro e w2 ⟨rfl, r2, o2⟩
  rw [← HXv.out]
  have R2 := Lib.hid r2; have O2 := Lib.hid o2; clear r2 o2
  go_wp2_with fail
  refine (rBits_has (m := 2) rfl (by omega) R2.out HS.out HB3.out).mono ?_
  rintro e w3 ⟨rfl, r3, o3⟩
  rw [HK.out, show ((1 : Nat) : Int) = 1 from rfl]
  have R3 : Hid (rr w3 g s (a + 3)) := Lib.hid r3
  have O3 := Lib.hid (O2.out.trans o3)
  clear r3 o3
  have HYk := Lib.hid (HY.out _ O3.out)
  have k4 := Blk.fresh w3 68 #[.bool fb, .int .i64 1, .int .i64 0, .slice none 0 0, .slice none 0 0]
  have b4 := below_alloc w3 (.cells #[.bool fb, .int .i64 1, .int .i64 0, .slice none 0 0, .slice none 0 0] 68)
  obtain ⟨w4, hw4⟩ : ∃ w4, w4 = w3.alloc (.cells #[.bool fb, .int .i64 1, .int .i64 0, .slice none 0 0, .slice none 0 0] 68) := ⟨_, rfl⟩
  rw [← hw4] at k4 b4
  have K4 := Lib.hid k4
  have R4 := Lib.hid (R3.out.below b4)
  have KY4 := Lib.hid (HYk.out.below b4)
  have On4 := Lib.hid ((HO.out _ O3.out).trans (Only.of_below b4))
  have S3 : Hid (w.heap.size + 1 ≤ w3.heap.size) := Lib.hid (HSz.out _ O3.out)
  clear k4 b4 R3 HYk HY HO HSz O2 O3 R2 H1
  go_wp2_with fail
  rw [← hw4]
  clear hw4
  refine (rFixedLits_any w4).mono ?_
  rintro e w5 ⟨v5, rfl, k5, b5⟩
  obtain ⟨A1, c1, hv5, _⟩ := ints_row k5
  rw [fixL_length] at hv5
  subst hv5
  have kb := K4.out.below b5
  have f3 := kb.frozen 3
  have t3 := kb.cell 3
  obtain ⟨V5, hV5⟩ : ∃ V, V = w5.setCell ⟨w3.heap.size, 3, none⟩ (.slice A1 288 c1) := ⟨_, rfl⟩
  have o5 : Only (fun i => i = w3.heap.size) w5 V5 := by rw [hV5]; exact (Only.refl (fun i => i = w3.heap.size) w5).store (p := ⟨w3.heap.size, 3, none⟩) (.inl rfl) _
  have s34 : w3.heap.size < w4.heap.size := K4.out.lt
  have KB : Hid (Blk V5 w3.heap.size 68 #[.bool fb, .int .i64 1, .int .i64 0, .slice A1 288 c1, .slice none 0 0]) := Lib.hid (by rw [hV5]; exact kb.store 3 _)
  have I5 : Hid (ints V5 w4.heap.size 3 (.slice A1 288 c1) (ofN fixL)) := Lib.hid (k5.only o5 (fun i hi e => by have h1 := (k5.lo i hi).1; have : i = w3.heap.size := e; omega))
  have KY5 := Lib.hid ((KY4.out.below b5).only o5 (fun e => by have : w.heap.size = w3.heap.size := e; have := S3.out; omega))
  have R5 := Lib.hid (Blk.only (R4.out.below b5) o5 (fun e => by have : g = w3.heap.size := e; have := S3.out; have := HG.out; omega))
  have On5 := Lib.hid ((On4.out.trans (Only.of_below b5)).then o5 (fun i hi hlt => by have : i = w3.heap.size := hi; have := S3.out; omega))
  have S5 : Hid (w4.heap.size ≤ V5.heap.size) := Lib.hid (Nat.le_trans b5.size o5.size)
  have S34 := Lib.hid s34
  clear k5 b5 kb o5 s34 R4 KY4 On4 K4
  go_wp2_with fail
  rw [← hV5]
  clear hV5 f3 t3
  refine (rFixedDists_any V5).mono ?_
  rintro e w6 ⟨v6, rfl, k6, b6⟩
  obtain ⟨A2, c2, hv6, _⟩ := ints_row k6
  rw [fixD_length] at hv6
  subst hv6
  have kb := KB.out.below b6
  have f4 := kb.frozen 4
  have t4 := kb.cell 4
  have o6 : Only (fun i => i = w3.heap.size) w6 (w6.setCell ⟨w3.heap.size, 4, none⟩ (.slice A2 32 c2)) := (Only.refl (fun i => i = w3.heap.size) w6).store (p := ⟨w3.heap.size, 4, none⟩) (.inl rfl) _
  have HL : Hid (Blk (w6.setCell ⟨w3.heap.size, 4, none⟩ (.slice A2 32 c2)) w3.heap.size 68 #[.bool fb, .int .i64 1, .int .i64 0, .slice A1 288 c1, .slice A2 32 c2]) := Lib.hid (kb.store 4 _)
  have HY6 := Lib.hid ((KY5.out.below b6).only o6 (fun e => by have : w.heap.size = w3.heap.size := e; have := S3.out; omega))
  have I6 := Lib.hid ((I5.out.below b6).only o6 (fun i hi e => by have h1 := (I5.out.lo i hi).1; have : i = w3.heap.size := e; have := S34.out; omega))
  have J6 := Lib.hid (k6.only o6 (fun i hi e => by have h1 := (k6.lo i hi).1; have : i = w3.heap.size := e; have := S34.out; have := S5.out; omega))
  have R6 := Lib.hid (Blk.only (R5.out.below b6) o6 (fun e => by have : g = w3.heap.size := e; have := S3.out; have := HG.out; omega))
  have On6 := Lib.hid ((On5.out.trans (Only.of_below b6)).then o6 (fun i hi hlt => by have : i = w3.heap.size := hi; have := S3.out; omega))
  clear k6 b6 kb o6 R5 KY5 On5 KB I5
  go_wp2_with (first | (refine wpList_load_row rfl 68 _ rfl w3.heap.size rfl _ _ _ _ HL.out Tryz.underlying68 rfl sizeR ?_) | (refine wpList_store_row rfl 68 _ _ rfl w.heap.size #[.bool fb, .int .i64 1, .int .i64 0, .slice A1 288 c1, .slice A2 32 c2] rfl rfl _ _ HY6.out sizeR rfl (one5 _ _ _ _ _ _ _ _ _) ?_))
  refine bodyPost_ret (v := .tuple #[.agg #[.bool fb, .int .i64 1, .int .i64 0, .slice A1 288 c1, .slice A2 32 c2], .int .i64 0]) (results_cell2 rfl _ _ w.heap.size 68 _ _ _ rfl rfl (setRow_heap _ _ _ _ _ _ HY6.out) Tryz.underlying68 rfl sizeR) rfl ?_
  refine end_pass (hh := ⟨fb, 1, 0, fixL, fixD⟩) On6.out (Nat.le_refl _) HG.out HY6.out ⟨_, _, rfl, lst_of I6.out, lst_of J6.out⟩ ?_ (fun _ => R6.out) ⟨_, R6.out⟩
  rw [if_pos rfl, HFB.out]

theorem rhead_any (h : rr w g s a) (hs : s.size ≤ 281474976710656) (ha : a ≤ 8 * s.size) : Calls Tryz.prog 34 #[.pointer (some ⟨g, 0, none⟩)] w (rHead g s a w) := by
  by_cases hl : 8 * s.size - a < 3
  · exact rhead_short h hs ha hl
  · have hp := peekN_lt (num s.data.toList) (a + 1) 2
    rcases (show peekN (num s.data.toList) (a + 1) 2 = 0 ∨ peekN (num s.data.toList) (a + 1) 2 = 1 ∨ peekN (num s.data.toList) (a + 1) 2 = 2 ∨ peekN (num s.data.toList) (a + 1) 2 = 3 by omega) with k | k | k | k
    · exact rhead_sto h hs ha hl k
    · exact rhead_fix h hs ha hl k
    · exact rhead_dyn h hs ha hl k
    · exact rhead_no h hs ha hl k

/-- What the reference's Read answers. -/
def rReads (g : Nat) (s : ByteArray) (a : Nat) (w : World) (e : Ending) (w' : World) : Prop :=
  ∃ b k z A1 n1 c1 A2 n2 c2, e = .returned (.tuple #[hv b k z (.slice A1 n1 c1) (.slice A2 n2 c2), .int .i64 (headM (num s.data.toList) (8 * s.size) a).1]) ∧
    isH w' (hv b k z (.slice A1 n1 c1) (.slice A2 n2 c2)) (headM (num s.data.toList) (8 * s.size) a).2.1 ∧ rr w' g s (headM (num s.data.toList) (8 * s.size) a).2.2 ∧ Only (At g) w w'
set_option maxHeartbeats 4000000 in
set_option maxRecDepth 100000 in
theorem rRead_all (h : rr w g s a) (hs : s.size ≤ 281474976710656) (ha : a ≤ 8 * s.size) : Calls Tryz.prog 22 #[.pointer (some ⟨g, 0, none⟩)] w (rReads g s a w) := by
  obtain ⟨w1, hw1⟩ : ∃ w1, w1 = w.alloc (.cells z5 68) := ⟨_, rfl⟩
  have b1 : Below w.heap.size w w1 := by rw [hw1]; exact below_alloc _ _
  have kY : Blk w1 w.heap.size 68 z5 := by rw [hw1]; exact Blk.fresh _ _ _
  have hgl : g < w.heap.size := h.lt
  have HG := Lib.hid hgl
  have h1 : rr w1 g s a := h.below b1
  have s1 : w1.heap.size = w.heap.size + 1 := by rw [hw1, size_alloc]
  have HHd := Lib.hid (rhead_any h1 hs ha)
  have KY1 := Lib.hid kY
  have B1 := Lib.hid b1
  have S1 := Lib.hid s1
  have c1r := h1.c1
  rw [hw1] at c1r
  unfold rHead at HHd
  obtain ⟨er, her⟩ : ∃ er, er = (headM (num s.data.toList) (8 * s.size) a).1 := ⟨_, rfl⟩
  have HER := Lib.hid her
  have HERR : Hid (er ≠ 0 → (headM (num s.data.toList) (8 * s.size) a).2.1 = Hd.zero ∧ (headM (num s.data.toList) (8 * s.size) a).2.2 = a) := Lib.hid (fun e => head_err (by rw [← her]; exact e))
  rw [← her] at HHd
  unfold rReads
  rw [← her]
  obtain ⟨HH, hHH⟩ : ∃ HH, HH = (headM (num s.data.toList) (8 * s.size) a).2 := ⟨_, rfl⟩
  rw [← hHH] at HHd HERR ⊢
  clear b1 kY hgl h h1 hs ha s1 her hHH
  go_enter Tryz.func22, Tryz.ntmps22
  go_wp2_with fail
  rw [← hw1]
  clear hw1 c1r
  refine HHd.out.mono ?_
  rintro e w2 ⟨b, k, z, A1, n1, c1, A2, n2, c2, rfl, i2, r2, ra2, o2⟩
  have I2 := Lib.hid i2
  have R2 := Lib.hid r2
  have RA2 := Lib.hid ra2
  have KY2 := Lib.hid (KY1.out.only o2 (fun e => by have : w.heap.size = g := e; have := HG.out; omega))
  have On2 := Lib.hid ((Only.of_below (S := At g) B1.out).trans o2)
  have S2 : Hid (w.heap.size + 1 ≤ w2.heap.size) := Lib.hid (by have := o2.size; have := S1.out; omega)
  clear i2 r2 ra2 o2
  have k3 := Blk.fresh w2 68 #[.bool b, .int .i64 k, .int .i64 z, .slice A1 n1 c1, .slice A2 n2 c2]
  have b3 := below_alloc w2 (.cells #[.bool b, .int .i64 k, .int .i64 z, .slice A1 n1 c1, .slice A2 n2 c2] 68)
  obtain ⟨w3, hw3⟩ : ∃ w3, w3 = w2.alloc (.cells #[.bool b, .int .i64 k, .int .i64 z, .slice A1 n1 c1, .slice A2 n2 c2] 68) := ⟨_, rfl⟩
  rw [← hw3] at k3 b3
  have K3 := Lib.hid k3
  have KY3 := Lib.hid (KY2.out.below b3)
  have I3 := Lib.hid (I2.out.below b3)
  have On3 := Lib.hid (On2.out.trans (Only.of_below b3))
  have HW3 := Lib.hid hw3
  by_cases he : er = 0
  · have R3 := Lib.hid ((R2.out he).below b3)
    have HIE : Hid ((if er = 0 then HH.1 else Hd.zero) = HH.1) := Lib.hid (by rw [if_pos he])
    subst he
    clear k3 b3
    rw [hw3] at K3 KY3
    clear hw3
    go_wp2_with (first | (refine wpList_load_row rfl 68 _ rfl w2.heap.size rfl _ _ _ _ K3.out Tryz.underlying68 rfl sizeR ?_) | (refine wpList_store_row rfl 68 _ _ rfl w.heap.size #[.bool b, .int .i64 k, .int .i64 z, .slice A1 n1 c1, .slice A2 n2 c2] rfl rfl _ _ KY3.out sizeR rfl (one5 _ _ _ _ _ _ _ _ _) ?_))
    refine bodyPost_ret (v := .tuple #[.agg #[.bool b, .int .i64 k, .int .i64 z, .slice A1 n1 c1, .slice A2 n2 c2], .int .i64 0]) (results_cell2 rfl _ _ w.heap.size 68 _ _ _ rfl rfl (setRow_heap _ _ _ _ _ _ KY3.out) Tryz.underlying68 rfl sizeR) rfl ?_
    rw [← HW3.out]
    rw [← HW3.out] at KY3
    have oR : Only (fun i => i = w.heap.size) w3 (w3.setRow w.heap.size #[.bool b, .int .i64 k, .int .i64 z, .slice A1 n1 c1, .slice A2 n2 c2]) := only_row (S := fun i => i = w.heap.size) (Only.refl _ _) rfl _
    refine ⟨b, k, z, A1, n1, c1, A2, n2, c2, rfl, ?_, Blk.only R3.out oR (fun e => by have : g = w.heap.size := e; have := HG.out; omega), only_setRow On3.out (Nat.le_refl _) _⟩
    have hi := I3.out
    rw [HIE.out] at hi
    exact hi.off oR (fun q hq => by
      obtain rfl : q = w.heap.size := hq
      exact ⟨_, _, KY3.out, by decide⟩)
  · obtain ⟨a2, ra⟩ := RA2.out
    have r3 := ra.below b3
    have c1r := r3.c1
    have f1r := r3.f1
    have hne : (er != 0) = true := by simpa using he
    obtain ⟨z1, z2⟩ := HERR.out he
    have hiz : (if er = 0 then HH.1 else Hd.zero) = HH.1 := by rw [if_neg he, z1]
    have HIE := Lib.hid hiz
    have r4 := rr_put r3 (x := (a : Int)) (b := a) rfl
    have oP : Only (At g) w3 (w3.setCell ⟨g, 1, none⟩ (.int .i64 (a : Int))) := (Only.refl _ _).store (p := ⟨g, 1, none⟩) (.inl (At.self g)) _
    have K4 := Lib.hid (K3.out.only oP (fun e => by have : w2.heap.size = g := e; have := HG.out; have := S2.out; omega))
    have KY4 := Lib.hid (KY3.out.only oP (fun e => by have : w.heap.size = g := e; have := HG.out; omega))
    have hi4 := I3.out.off oP (fun q hq => by
      obtain rfl : q = g := hq
      exact ⟨_, _, r3, by decide⟩)
    rw [hiz] at hi4
    have I4 := Lib.hid hi4
    have R4 : Hid (rr (w3.setCell ⟨g, 1, none⟩ (.int .i64 (a : Int))) g s HH.2) := Lib.hid (by rw [z2]; exact r4)
    have On4 := Lib.hid (On3.out.trans oP)
    clear k3 b3 ra r3 z1 z2 hiz r4 oP hi4 he
    rw [hw3] at c1r f1r K4 KY4
    clear hw3
    go_wp2_with (first | (refine wpList_load_row rfl 68 _ rfl w2.heap.size rfl _ _ _ _ K4.out Tryz.underlying68 rfl sizeR ?_) | (refine wpList_store_row rfl 68 _ _ rfl w.heap.size #[.bool b, .int .i64 k, .int .i64 z, .slice A1 n1 c1, .slice A2 n2 c2] rfl rfl _ _ KY4.out sizeR rfl (one5 _ _ _ _ _ _ _ _ _) ?_))
    refine bodyPost_ret (v := .tuple #[.agg #[.bool b, .int .i64 k, .int .i64 z, .slice A1 n1 c1, .slice A2 n2 c2], .int .i64 er]) (results_cell2 rfl _ _ w.heap.size 68 _ _ _ rfl rfl (setRow_heap _ _ _ _ _ _ KY4.out) Tryz.underlying68 rfl sizeR) rfl ?_
    rw [← HW3.out]
    rw [← HW3.out] at KY4
    have oR : Only (fun i => i = w.heap.size) (w3.setCell ⟨g, 1, none⟩ (.int .i64 (a : Int))) ((w3.setCell ⟨g, 1, none⟩ (.int .i64 (a : Int))).setRow w.heap.size #[.bool b, .int .i64 k, .int .i64 z, .slice A1 n1 c1, .slice A2 n2 c2]) := only_row (S := fun i => i = w.heap.size) (Only.refl _ _) rfl _
    refine ⟨b, k, z, A1, n1, c1, A2, n2, c2, rfl, ?_, Blk.only R4.out oR (fun e => by have : g = w.heap.size := e; have := HG.out; omega), only_setRow On4.out (Nat.le_refl _) _⟩
    exact I4.out.off oR (fun q hq => by
      obtain rfl : q = w.heap.size := hq
      exact ⟨_, _, KY4.out, by decide⟩)
end
end Go.Proofs.YtkcnjhkbcjnbkaaGreatDoor.Mi
namespace Go.Proofs.YtkcnjhkbcjnbkaaGreatDoor.Irb
open Go.RowKit Go.Proofs.YtkcnjhkbcjnbkaaGreatDoor.Vm Go.Proofs.YtkcnjhkbcjnbkaaGreatDoor.Vo Go.Proofs.YtkcnjhkbcjnbkaaGreatDoor.Bm Go.Proofs.YtkcnjhkbcjnbkaaGreatDoor.Bw Go.Proofs.YtkcnjhkbcjnbkaaGreatDoor.Bp Go.Proofs.YtkcnjhkbcjnbkaaGreatDoor.Bs Go.Proofs.YtkcnjhkbcjnbkaaGreatDoor.Bq Go.Proofs.YtkcnjhkbcjnbkaaGreatDoor.Be Go.Proofs.YtkcnjhkbcjnbkaaGreatDoor.Wr Go.Proofs.YtkcnjhkbcjnbkaaGreatDoor.Wc Go.Proofs.YtkcnjhkbcjnbkaaGreatDoor.Ww Go.Proofs.YtkcnjhkbcjnbkaaGreatDoor.Pm Go.Proofs.YtkcnjhkbcjnbkaaGreatDoor.Pr Go.Proofs.YtkcnjhkbcjnbkaaGreatDoor.Sm Go.Proofs.YtkcnjhkbcjnbkaaGreatDoor.Sp Go.Proofs.YtkcnjhkbcjnbkaaGreatDoor.Sr Go.Proofs.YtkcnjhkbcjnbkaaGreatDoor.Me Go.Proofs.YtkcnjhkbcjnbkaaGreatDoor.Fm Go.Proofs.YtkcnjhkbcjnbkaaGreatDoor.Im Go.Proofs.YtkcnjhkbcjnbkaaGreatDoor.Ia Go.Proofs.YtkcnjhkbcjnbkaaGreatDoor.Ira

/-- The work at g: its reader at r, the bytes c (v), of which the first pre are the preset. -/
def wk (w : World) (g r : Nat) (s : ByteArray) (a : Nat) (v : Value) (c : List UInt8) (pre : Nat) : Prop :=
  Blk w g 64 #[.pointer (some ⟨r, 0, none⟩), v, .int .i64 (pre : Int)] ∧ rr w r s a ∧ rbuf w v c ∧ pre ≤ c.length
/-- What it may write. -/
def ow (g r : Nat) (v : Value) (i : Nat) : Prop := i = g ∨ i = r ∨ v.ownBlock = some i
/-- Where the bytes lie behind it. -/
def lat (w : World) (v v' : Value) : Prop := ∀ i, v'.ownBlock = some i → v.ownBlock = some i ∨ w.heap.size ≤ i
section
variable {w w' : World} {g r : Nat} {s : ByteArray} {a : Nat} {v : Value} {c : List UInt8} {pre : Nat}
theorem lat.refl (w : World) (v : Value) : lat w v v := fun _ h => .inl h
theorem wk.ne (h : wk w g r s a v c pre) : g ≠ r ∧ (∀ i, v.ownBlock = some i → i ≠ g) ∧ ∀ i, v.ownBlock = some i → i ≠ r :=
  ⟨Blk.apart h.1 h.2.1 (by decide), h.2.2.1.apart h.1 (by decide), h.2.2.1.apart h.2.1 (by decide)⟩
theorem wk.below (h : wk w g r s a v c pre) (k : Below w.heap.size w w') : wk w' g r s a v c pre := ⟨h.1.below k, h.2.1.below k, h.2.2.1.below k, h.2.2.2⟩
theorem wk.draws (h : wk w g r s a v c pre) (n : Nat) : wk (w.drewN n) g r s a v c pre := h
/-- Its reader has moved. -/
theorem wk.moved {a' : Nat} (h : wk w g r s a v c pre) (o : Only (At r) w w') (r' : rr w' r s a') : wk w' g r s a' v c pre ∧ Only (ow g r v) w w' :=
  ⟨⟨h.1.only o (fun e => h.ne.1 e), r', h.2.2.1.only o (fun i hi e => h.ne.2.2 i hi e), h.2.2.2⟩, o.mono (fun _ e => .inr (.inl e))⟩
/-- Its bytes have grown. -/
theorem wk.put {v' : Value} {x : List UInt8} {w1 w2 : World} (h : wk w g r s a v c pre) (b1 : Below w.heap.size w w1) (hb : rbuf w2 v' (c ++ x)) (o : Only (of v) w1 w2) (hl : ∀ i, v'.ownBlock = some i → v.ownBlock = some i ∨ w1.heap.size ≤ i) :
    wk (w2.setCell ⟨g, 1, none⟩ v') g r s a v' (c ++ x) pre ∧ Only (ow g r v) w (w2.setCell ⟨g, 1, none⟩ v') ∧ lat w v v' := by
  have h1 := h.below b1
  have k2 : Blk w2 g 64 #[.pointer (some ⟨r, 0, none⟩), v, .int .i64 (pre : Int)] := h1.1.only o (fun e => h1.ne.2.1 g e rfl)
  have r2 : rr w2 r s a := h1.2.1.only o (fun e => h1.ne.2.2 r e rfl)
  have k3 := k2.store 1 v'
  have o3 : Only (fun i => i = g) w2 (w2.setCell ⟨g, 1, none⟩ v') := (Only.refl (fun i => i = g) w2).store (p := ⟨g, 1, none⟩) (.inl rfl) v'
  refine ⟨⟨k3, r2.only o3 (fun e => h.ne.1 e.symm), hb.only o3 (hb.apart k2 (by decide)), by rw [List.length_append]; have := h.2.2.2; omega⟩, ?_, fun i hi => (hl i hi).imp id (fun e => Nat.le_trans b1.size e)⟩
  exact ((Only.of_below b1).trans (o.mono (fun i e => .inr (.inr e)))).trans (o3.mono (fun i e => .inl e))

set_option maxHeartbeats 1000000 in
set_option maxRecDepth 100000 in
theorem rput_any {z : Int} (x : UInt8) (hz : z = (x.toNat : Int)) (h : wk w g r s a v c pre) (hc : c.length ≤ 2000000) :
    Calls Tryz.prog 36 #[.pointer (some ⟨g, 0, none⟩), .int .u8 z] w fun e w' => e = .returned (.bool true) ∧ ∃ v', wk w' g r s a v' (c ++ [x]) pre ∧ Only (ow g r v) w w' ∧ lat w v v' := by
  subst hz
  obtain ⟨b, cap, rfl, _, _, _, _⟩ := h.2.2.1.block
  have H := Lib.hid h
  have HC := Lib.hid hc
  obtain ⟨n, hn⟩ : ∃ n, n = c.length := ⟨_, rfl⟩
  have HN := Lib.hid hn
  have hpre := h.2.2.2
  rw [← hn] at h H hc hpre
  have hlt : ¬ (16777216 : Int) ≤ (n : Int) - (pre : Int) := by omega
  have hge : (0 : Int) ≤ (n : Int) - (pre : Int) := by omega
  have c1 : w.cell? ⟨g, 1, none⟩ = some (.slice (some ⟨b, 0, none⟩) n cap) := h.1.cell 1
  have c2 : w.cell? ⟨g, 2, none⟩ = some (.int .i64 (pre : Int)) := h.1.cell 2
  clear h hn
  go_enter Tryz.func36, Tryz.ntmps36
  go_wp2
  go_quiet (fail)
  have HB0 : Hid (Below w.heap.size w (w.drewN nq)) := Lib.hid (below_draws w nq)
  have c0 : (w.drewN nq).cell? ⟨g, 1, none⟩ = some (.slice (some ⟨b, 0, none⟩) n cap) := c1
  clear c1 c2
  generalize w.drewN nq = w0 at *
  obtain ⟨w6, hw6⟩ : ∃ w6, w6 = w0.alloc (.cells #[.int .u8 (x.toNat : Int)] 5) := ⟨_, rfl⟩
  have HB6 : Hid (Below w.heap.size w w6) := Lib.hid (by rw [hw6]; exact grows HB0.out ((Below.refl _ w0).alloc (Nat.le_refl _) _))
  have HAD : Hid (w6.cell? ⟨w0.heap.size, 0, none⟩ = some (B x)) := Lib.hid (by rw [hw6]; exact (Blk.fresh w0 5 #[.int .u8 (x.toNat : Int)]).cell 0)
  have HLM : Hid (c.length + 1 ≤ 1000000000) := Lib.hid (by have := HC.out; omega)
  have HY6 : Hid (rbuf w6 (.slice (some ⟨b, 0, none⟩) n cap) c) := Lib.hid (H.out.below HB6.out).2.2.1
  have HF6 : Hid (∀ w7, Only (of (.slice (some ⟨b, 0, none⟩) n cap)) w6 w7 → w7.frozen? ⟨g, 1, none⟩ = false ∧ w7.cell? ⟨g, 1, none⟩ = some (.slice (some ⟨b, 0, none⟩) n cap)) := Lib.hid (fun w7 h7 => (fun hb => ⟨Blk.frozen hb 1, Blk.cell hb 1⟩) ((H.out.below HB6.out).1.only h7 (fun e => H.out.ne.2.1 g e rfl)))
  go_wp2_with (at_builtin; rw [← hw6]; refine wpList_rbuf_one rfl _ _ rfl (.slice (some ⟨b, 0, none⟩) n cap) rfl c HY6.out ⟨w0.heap.size, 0, none⟩ 1 1 x rfl rfl HAD.out HLM.out (n + 1) (by rw [HN.out]) ?_; intro b7 cap7 w7 h7; have f7 : w7.frozen? ⟨g, 1, none⟩ = false := (HF6.out w7 h7.out.2.1).1; have c7 : w7.cell? ⟨g, 1, none⟩ = some (.slice (some ⟨b, 0, none⟩) n cap) := (HF6.out w7 h7.out.2.1).2)
  go_ret
  exact ⟨rfl, _, H.out.put HB6.out h7.out.1 h7.out.2.1 (fun i hi => by obtain rfl : b7 = i := Option.some.inj hi; exact h7.out.2.2)⟩

set_option maxHeartbeats 1000000 in
set_option maxRecDepth 100000 in
theorem rfurther_has {z y : Int} {b m : Nat} (hy : y = (b : Int)) (hz : z = (m : Int)) (hb : b ≤ 100000) (hm : m ≤ 32) (h : wk w g r s a v c pre) (hs : s.size ≤ 281474976710656) (ha : a + m ≤ 8 * s.size) :
    Calls Tryz.prog 58 #[.pointer (some ⟨g, 0, none⟩), .int .i64 y, .int .i64 z] w fun e w' => e = .returned (.tuple #[.int .i64 ((b + peekN (num s.data.toList) a m : Nat) : Int), .int .i64 0]) ∧ wk w' g r s (a + m) v c pre ∧ Only (ow g r v) w w' := by
  subst hy hz
  have H := Lib.hid h
  have c0 : w.cell? ⟨g, 0, none⟩ = some (.pointer (some ⟨r, 0, none⟩)) := h.1.cell 0
  have HB := Lib.hid (rBits_has (z := (m : Int)) rfl hm h.2.1 hs ha)
  have hx := peekN_lt (num s.data.toList) a m
  have hp : 2 ^ m ≤ 2 ^ 32 := Nat.pow_le_pow_right (by omega) hm
  generalize peekN (num s.data.toList) a m = x at *
  have hx : x < 4294967296 := by omega
  have hcast : ((b + x : Nat) : Int) = (b : Int) + (x : Int) := by omega
  rw [hcast]
  clear h hs ha hp hcast
  go_enter Tryz.func58, Tryz.ntmps58
  go_wp2_with fail
  refine HB.out.mono ?_
  rintro e w1 ⟨rfl, r1, o1⟩
  have G := Lib.hid (H.out.moved o1 r1)
  clear r1 o1 HB c0
  go_wp2
  go_ret2
  exact ⟨rfl, G.out⟩
set_option maxHeartbeats 1000000 in
set_option maxRecDepth 100000 in
theorem rfurther_short {z y : Int} {b m : Nat} (hy : y = (b : Int)) (hz : z = (m : Int)) (hb : b ≤ 100000) (hm : m ≤ 32) (h : wk w g r s a v c pre) (hs : s.size ≤ 281474976710656) (ha : a ≤ 8 * s.size) (hl : 8 * s.size - a < m) :
    Calls Tryz.prog 58 #[.pointer (some ⟨g, 0, none⟩), .int .i64 y, .int .i64 z] w fun e w' => e = .returned (.tuple #[.int .i64 (b : Int), .int .i64 2]) ∧ wk w' g r s a v c pre ∧ Only (ow g r v) w w' := by
  subst hy hz
  have H := Lib.hid h
  have c0 : w.cell? ⟨g, 0, none⟩ = some (.pointer (some ⟨r, 0, none⟩)) := h.1.cell 0
  have HB := Lib.hid (rBits_short (z := (m : Int)) rfl hm h.2.1 hs ha hl)
  clear h hs ha hl
  go_enter Tryz.func58, Tryz.ntmps58
  go_wp2_with fail
  refine HB.out.mono ?_
  rintro e w1 ⟨rfl, r1, o1⟩
  have G := Lib.hid (H.out.moved o1 r1)
  clear r1 o1 HB c0
  go_wp2
  go_ret2
  exact ⟨by simp, G.out⟩

/-- What is made of a block's bytes: what is wrong, the place, the bytes. -/
def didW (w : World) (g r : Nat) (s : ByteArray) (v : Value) (c : List UInt8) (pre : Nat) (R : Int × Nat × List UInt8) (e : Ending) (w' : World) : Prop :=
  e = .returned (.int .i64 R.1) ∧ ∃ v' a', wk w' g r s a' v' (c ++ R.2.2) pre ∧ a' ≤ 8 * s.size ∧ (R.1 = 0 → a' = R.2.1) ∧ Only (ow g r v) w w' ∧ lat w v v'
def stoW (N M a q : Nat) : Int × Nat × List UInt8 := if (M - a) / 8 < q then (2, a + 8 * ((M - a) / 8), stoB N a ((M - a) / 8)) else (0, a + 8 * q, stoB N a q)
theorem stoB_snoc (N a i : Nat) : stoB N a i ++ [UInt8.ofNat (peekN N (a + 8 * i) 8)] = stoB N a (i + 1) := by simp [stoB, List.range_succ]
theorem ow.trans {w w1 w2 : World} {g r : Nat} {v v1 v2 : Value} (o : Only (ow g r v) w w1) (l : lat w v v1) (o2 : Only (ow g r v1) w1 w2) (l2 : lat w1 v1 v2) : Only (ow g r v) w w2 ∧ lat w v v2 := by
  refine ⟨o.then o2 (fun i hi hlt => ?_), fun i hi => ?_⟩
  · rcases hi with e | e | e
    · exact .inl e
    · exact .inr (.inl e)
    · rcases l i e with k | k
      · exact .inr (.inr k)
      · omega
  · rcases l2 i hi with k | k
    · exact l i k
    · exact .inr (Nat.le_trans o.size k)

set_option maxHeartbeats 2000000 in
set_option maxRecDepth 100000 in
theorem rstored_any {z : Int} {q : Nat} (hz : z = (q : Int)) (hq : q ≤ 65535) (h : wk w g r s a v c pre) (hs : s.size ≤ 281474976710656) (ha : a ≤ 8 * s.size) (hc : c.length + q ≤ 2000000) :
    Calls Tryz.prog 23 #[.pointer (some ⟨g, 0, none⟩), .int .i64 z] w (didW w g r s v c pre (stoW (num s.data.toList) (8 * s.size) a q)) := by
  subst hz
  have H := Lib.hid h
  have HS := Lib.hid hs
  have HC := Lib.hid hc
  obtain ⟨N, hN⟩ : ∃ N, N = num s.data.toList := ⟨_, rfl⟩
  obtain ⟨M, hM⟩ : ∃ M, M = 8 * s.size := ⟨_, rfl⟩
  rw [← hN, ← hM]
  rw [← hM] at ha
  have HN := Lib.hid hN
  have HM := Lib.hid hM
  have HA := Lib.hid ha
  clear h hs hc hN hM ha
  go_enter Tryz.func23, Tryz.ntmps23
  go_wp2
  go_loopw [5] (fun s5 wr => ∃ (i : Nat) (v1 : Value), s5 = .int .i64 (i : Int) ∧ i ≤ q ∧ Hid (a + 8 * i ≤ M) ∧ Hid (wk wr g r s (a + 8 * i) v1 (c ++ stoB N a i) pre) ∧ Hid (Only (ow g r v) w wr ∧ lat w v v1)) (fun s5 _ => q - (intOf s5).toNat)
  case atStart => exact ⟨0, v, rfl, Nat.zero_le _, Lib.hid HA.out, Lib.hid (by have := H.out; simpa [stoB] using this), Lib.hid ⟨Only.refl _ _, lat.refl _ _⟩⟩
  case round =>
    obtain ⟨i, v1, rfl, hi, HI, W1, O1⟩ := hrel
    by_cases hiq : i = q
    · subst hiq
      have hlt : ¬ ((i : Int) < (i : Int)) := by omega
      go_wp2
      go_ret
      have e : stoW N M a i = (0, a + 8 * i, stoB N a i) := by unfold stoW; rw [if_neg (by have := HI.out; omega)]
      rw [e]
      exact ⟨rfl, v1, _, W1.out, by rw [← HM.out]; exact HI.out, fun _ => rfl, O1.out⟩
    · have hlt : ((i : Int) < (q : Int)) := by omega
      have HIQ := Lib.hid hiq
      clear hiq
      have c0 : wr.cell? ⟨g, 0, none⟩ = some (.pointer (some ⟨r, 0, none⟩)) := W1.out.1.cell 0
      by_cases hl : M - (a + 8 * i) < 8
      · have HL := Lib.hid hl
        clear hl
        have HB := Lib.hid (rBits_short (z := 8) (m := 8) rfl (by omega) W1.out.2.1 HS.out (by rw [← HM.out]; exact HI.out) (by rw [← HM.out]; exact HL.out))
        go_wp2_with fail
        refine HB.out.mono ?_
        rintro e w2 ⟨rfl, r2, o2⟩
        have G := Lib.hid (W1.out.moved o2 r2)
        clear r2 o2 HB c0
        go_wp2
        go_ret
        have e1 : (M - a) / 8 = i := by have := HI.out; have := HL.out; omega
        have e : stoW N M a q = (2, a + 8 * i, stoB N a i) := by unfold stoW; rw [e1, if_pos (by have := HIQ.out; omega)]
        rw [e]
        exact ⟨rfl, v1, _, G.out.1, by rw [← HM.out]; exact HI.out, fun _ => rfl, ow.trans O1.out.1 O1.out.2 G.out.2 (lat.refl _ _)⟩
      · have HL : Hid (a + 8 * (i + 1) ≤ M) := Lib.hid (by omega)
        clear hl
        have HB := Lib.hid (rBits_has (z := 8) (m := 8) rfl (by omega) W1.out.2.1 HS.out (by rw [← HM.out]; have := HL.out; omega))
        have hx := peekN_lt (num s.data.toList) (a + 8 * i) 8
        obtain ⟨x, hxe⟩ : ∃ x, x = peekN (num s.data.toList) (a + 8 * i) 8 := ⟨_, rfl⟩
        rw [← hxe] at HB hx
        have hx : x < 256 := hx
        obtain ⟨y, hy⟩ : ∃ y, y = UInt8.ofNat x := ⟨_, rfl⟩
        have HY : Hid ((x : Int) = (y.toNat : Int)) := Lib.hid (by rw [hy, UInt8.toNat_ofNat_of_lt' (by omega)])
        have HS1 : Hid (stoB N a i ++ [y] = stoB N a (i + 1)) := Lib.hid (by rw [hy, hxe, ← HN.out]; exact stoB_snoc N a i)
        clear hxe hy
        go_wp2_with fail
        refine HB.out.mono ?_
        rintro e w2 ⟨rfl, r2, o2⟩
        have G := Lib.hid (W1.out.moved o2 r2)
        clear r2 o2 HB c0
        go_wp2_with fail
        refine (rput_any y HY.out G.out.1 (by rw [List.length_append, stoB_length]; have := HC.out; omega)).mono ?_
        rintro e w3 ⟨rfl, v3, W3, o3, l3⟩
        have G3 := Lib.hid (ow.trans (ow.trans O1.out.1 O1.out.2 G.out.2 (lat.refl _ _)).1 (ow.trans O1.out.1 O1.out.2 G.out.2 (lat.refl _ _)).2 o3 l3)
        rw [List.append_assoc, HS1.out] at W3
        have W3 := Lib.hid W3
        clear o3 l3
        go_wp2
        go_roundw
        case measure => simp [intOf]; omega
        case rel => exact ⟨i + 1, v3, rfl, by omega, HL, W3, G3⟩
end
end Go.Proofs.YtkcnjhkbcjnbkaaGreatDoor.Irb
namespace Go.Proofs.YtkcnjhkbcjnbkaaGreatDoor.Irc
open Go.RowKit Go.Proofs.YtkcnjhkbcjnbkaaGreatDoor.Vm Go.Proofs.YtkcnjhkbcjnbkaaGreatDoor.Vo Go.Proofs.YtkcnjhkbcjnbkaaGreatDoor.Bm Go.Proofs.YtkcnjhkbcjnbkaaGreatDoor.Bw Go.Proofs.YtkcnjhkbcjnbkaaGreatDoor.Bp Go.Proofs.YtkcnjhkbcjnbkaaGreatDoor.Bs Go.Proofs.YtkcnjhkbcjnbkaaGreatDoor.Bq Go.Proofs.YtkcnjhkbcjnbkaaGreatDoor.Be Go.Proofs.YtkcnjhkbcjnbkaaGreatDoor.Na Go.Proofs.YtkcnjhkbcjnbkaaGreatDoor.Ne Go.Proofs.YtkcnjhkbcjnbkaaGreatDoor.Nm Go.Proofs.YtkcnjhkbcjnbkaaGreatDoor.Wr Go.Proofs.YtkcnjhkbcjnbkaaGreatDoor.Wc Go.Proofs.YtkcnjhkbcjnbkaaGreatDoor.Ww Go.Proofs.YtkcnjhkbcjnbkaaGreatDoor.Pm Go.Proofs.YtkcnjhkbcjnbkaaGreatDoor.Pr Go.Proofs.YtkcnjhkbcjnbkaaGreatDoor.Kd Go.Proofs.YtkcnjhkbcjnbkaaGreatDoor.Ke Go.Proofs.YtkcnjhkbcjnbkaaGreatDoor.Km Go.Proofs.YtkcnjhkbcjnbkaaGreatDoor.Sm Go.Proofs.YtkcnjhkbcjnbkaaGreatDoor.Sp Go.Proofs.YtkcnjhkbcjnbkaaGreatDoor.Sr Go.Proofs.YtkcnjhkbcjnbkaaGreatDoor.Me Go.Proofs.YtkcnjhkbcjnbkaaGreatDoor.Fm Go.Proofs.YtkcnjhkbcjnbkaaGreatDoor.Ga Go.Proofs.YtkcnjhkbcjnbkaaGreatDoor.Im Go.Proofs.YtkcnjhkbcjnbkaaGreatDoor.Ia Go.Proofs.YtkcnjhkbcjnbkaaGreatDoor.Ie Go.Proofs.YtkcnjhkbcjnbkaaGreatDoor.Ih Go.Proofs.YtkcnjhkbcjnbkaaGreatDoor.Ira Go.Proofs.YtkcnjhkbcjnbkaaGreatDoor.Irb

/-- What comes of what stands there. -/
def syR (c : List UInt8) : Sy → Int × Nat × List UInt8
  | .err e => (e, 0, [])
  | .fin b => (0, b, [])
  | .byte b x => (0, b, [UInt8.ofNat x])
  | .copy b n d => (0, b, Wm.out c d n)
section
variable {w w' : World} {g r : Nat} {s : ByteArray} {a : Nat} {v : Value} {c : List UInt8} {pre : Nat}
/-- A list of lengths is there as long as just the work's blocks change. -/
theorem lst_ow {u : Value} {l : List Nat} (h : lst w u l) (k : wk w g r s a v c pre) (o : Only (ow g r v) w w') : lst w' u l := Ko.ints.only h o (fun i hi hS => by
  rcases h.2 with ⟨rfl, _⟩ | ⟨b, cap, cur, rfl, _, hb, _⟩
  · cases hi
  · obtain rfl : b = i := Option.some.inj hi
    rcases hS with rfl | rfl | hv
    · exact Blk.apart (show Blk w b 3 cur from hb) k.1 (by decide) rfl
    · exact Blk.apart (show Blk w b 3 cur from hb) k.2.1 (by decide) rfl
    · exact k.2.2.1.apart (show Blk w b 3 cur from hb) (by decide) b hv rfl)
theorem rgot_no {A : Option Addr} {n cap : Nat} {l : List Nat} (hl : code l) (hr : lst w (.slice A n cap) l) (h : wk w g r s a v c pre) (hs : s.size ≤ 281474976710656) (ha : a ≤ 8 * s.size) (hg : got l (num s.data.toList) a (8 * s.size - a) = none) :
    Calls Tryz.prog 37 #[.pointer (some ⟨r, 0, none⟩), .slice A n cap] w fun e w' => e = .returned (.tuple #[.int .i64 0, .int .i64 (gotE l (num s.data.toList) a (8 * s.size - a))]) ∧ wk w' g r s a v c pre ∧ Only (ow g r v) w w' := by
  obtain ⟨e, hw⟩ := hr.row
  subst e
  refine (rRead_any (code_err hl) (Lib.hid hw) (Lib.hid h.2.1) hs ha).mono ?_
  rintro e w' ⟨rfl, r1, o1⟩
  rw [L_ix] at r1 ⊢
  have e1 : gotS l (num s.data.toList) a (8 * s.size - a) = 0 := by unfold gotS; rw [hg]
  have e2 : gotA l (num s.data.toList) a (8 * s.size - a) = a := by unfold gotA; rw [hg]
  rw [e2] at r1
  exact ⟨by rw [e1], h.moved o1 r1⟩
theorem rgot_yes {A : Option Addr} {n cap j : Nat} {l : List Nat} (hl : code l) (hr : lst w (.slice A n cap) l) (h : wk w g r s a v c pre) (hs : s.size ≤ 281474976710656) (ha : a ≤ 8 * s.size) (hg : got l (num s.data.toList) a (8 * s.size - a) = some j) :
    Calls Tryz.prog 37 #[.pointer (some ⟨r, 0, none⟩), .slice A n cap] w fun e w' => e = .returned (.tuple #[.int .i64 (j : Int), .int .i64 0]) ∧ wk w' g r s (a + nth l j) v c pre ∧ Only (ow g r v) w w' := by
  obtain ⟨e, hw⟩ := hr.row
  subst e
  refine (rRead_any (code_err hl) (Lib.hid hw) (Lib.hid h.2.1) hs ha).mono ?_
  rintro e w' ⟨rfl, r1, o1⟩
  rw [L_ix] at r1 ⊢
  have e1 : gotS l (num s.data.toList) a (8 * s.size - a) = (j : Int) := by unfold gotS; rw [hg]
  have e2 : gotA l (num s.data.toList) a (8 * s.size - a) = a + nth l j := by unfold gotA; rw [hg]
  have e3 : gotE l (num s.data.toList) a (8 * s.size - a) = 0 := by unfold gotE; rw [hg]
  rw [e2] at r1
  exact ⟨by rw [e1, e3], h.moved o1 r1⟩
theorem didW.err {e : Int} {w2 : World} {a2 p : Nat} {x : List UInt8} (hx : x = []) (h : wk w2 g r s a2 v c pre) (o : Only (ow g r v) w w2) (ha : a2 ≤ 8 * s.size) (he : e ≠ 0) : didW w g r s v c pre (e, p, x) (.returned (.int .i64 e)) w2 := by
  subst hx
  exact ⟨rfl, v, a2, by rw [List.append_nil]; exact h, ha, fun h => absurd h he, o, lat.refl _ _⟩

set_option maxHeartbeats 4000000 in
set_option maxRecDepth 100000 in
theorem rcopied_any {A : Option Addr} {dn cap : Nat} {Di : List Nat} {z : Int} {i : Nat} (hz : z = (i : Int)) (h : wk w g r s a v c pre) (hr : lst w (.slice A dn cap) Di) (hD : code Di) (hi : 256 < i) (hi2 : i ≤ 1000) (hs : s.size ≤ 281474976710656) (ha : a ≤ 8 * s.size) (hc : c.length ≤ 1999000) :
    Calls Tryz.prog 38 #[.pointer (some ⟨g, 0, none⟩), .int .i64 z, .slice A dn cap] w (didW w g r s v c pre (syR c (copM Di (num s.data.toList) (8 * s.size) a i c.length))) := by
  subst hz
  have H := Lib.hid h
  have HR := Lib.hid hr
  have HD := Lib.hid hD
  have HS := Lib.hid hs
  have HC := Lib.hid hc
  obtain ⟨len, hlen⟩ : ∃ len, len = c.length := ⟨_, rfl⟩
  rw [← hlen]
  have HLN := Lib.hid hlen
  obtain ⟨N, hN⟩ : ∃ N, N = num s.data.toList := ⟨_, rfl⟩
  obtain ⟨M, hM⟩ : ∃ M, M = 8 * s.size := ⟨_, rfl⟩
  rw [← hN, ← hM]
  rw [← hM] at ha
  have HN := Lib.hid hN
  have HM := Lib.hid hM
  have HA := Lib.hid ha
  clear hlen hN hM h hr hD hs hc ha
  rcases (show 285 < i ∨ i ≤ 285 by omega) with h1 | h1
  · have HL := Lib.hid (rLength_any (z := (i : Int)) (by omega) (by omega) w)
    rw [lenA_out (.inr (by omega))] at HL
    have HY : Hid (copM Di N M a i len = .err 9) := Lib.hid (by unfold copM; rw [if_pos h1])
    go_enter Tryz.func38, Tryz.ntmps38
    go_wp2_with fail
    refine HL.out.mono ?_
    rintro e w1 ⟨rfl, rfl⟩
    go_wp2
    go_ret
    rw [HY.out]
    exact didW.err rfl H.out (Only.refl _ _) (by rw [← HM.out]; exact HA.out) (by decide)
  · obtain ⟨q, hq⟩ : ∃ q, i = q + 257 := ⟨i - 257, by omega⟩
    have hq28 : q ≤ 28 := by omega
    have hz : (i : Int) - 257 = (q : Int) := by omega
    have hq' : i - 257 = q := by omega
    have HL := rLength_any (z := (i : Int)) (by omega) (by omega) w
    rw [lenA_in hz hq28] at HL
    have hlb := lb_le hq28
    have hlB := lB_le q hq28
    have hY0 : ∀ len, copM Di N M a i len = if M - a < lb q then .err 2 else disM Di N M (a + lb q) (lB q + peekN N a (lb q)) len := fun len => by unfold copM; rw [if_neg (by omega), hq']
    have h3 := lB_sum hq28 (peekN_lt N a (lb q))
    obtain ⟨B0, hB0⟩ : ∃ x, x = lB q := ⟨_, rfl⟩
    obtain ⟨b0, hb0⟩ : ∃ x, x = lb q := ⟨_, rfl⟩
    rw [← hB0, ← hb0] at HL h3
    rw [← hB0] at hlB
    rw [← hb0] at hlb
    simp only [← hB0, ← hb0] at hY0
    have HL := Lib.hid HL
    have HY0 := Lib.hid hY0
    have H3 := Lib.hid h3
    clear hz hq' hq hq28 hB0 hb0 hY0 h3
    rcases (show M - a < b0 ∨ a + b0 ≤ M by have := HA.out; omega) with h2 | h2
    · have HY : Hid (copM Di N M a i len = .err 2) := Lib.hid (by rw [HY0.out, if_pos h2])
      have HF := Lib.hid (rfurther_short (z := (b0 : Int)) (y := (B0 : Int)) rfl rfl (by omega) (by omega) H.out HS.out (by rw [← HM.out]; exact HA.out) (by rw [← HM.out]; exact h2))
      clear h2
      go_enter Tryz.func38, Tryz.ntmps38
      go_wp2_with fail
      refine HL.out.mono ?_
      rintro e w1 ⟨rfl, rfl⟩
      go_wp2_with fail
      refine HF.out.mono ?_
      rintro e w2 ⟨rfl, W2, o2⟩
      go_wp2
      go_ret
      rw [HY.out]
      exact didW.err rfl W2 o2 (by rw [← HM.out]; exact HA.out) (by decide)
    · have HF := rfurther_has (z := (b0 : Int)) (y := (B0 : Int)) rfl rfl (by omega) (by omega) H.out HS.out (by rw [← HM.out]; exact h2)
      have hY : copM Di N M a i len = disM Di N M (a + b0) (B0 + peekN N a b0) len := by rw [HY0.out, if_neg (by omega)]
      have h3 := H3.out
      rw [← HN.out] at HF
      obtain ⟨n, hn⟩ : ∃ n, n = B0 + peekN N a b0 := ⟨_, rfl⟩
      obtain ⟨a1, ha1⟩ : ∃ a1, a1 = a + b0 := ⟨_, rfl⟩
      rw [← hn, ← ha1] at HF hY
      rw [← hn] at h3
      rw [← ha1] at h2
      have H2 := Lib.hid h2
      have H3 := Lib.hid h3
      have HF := Lib.hid HF
      rw [hY]
      clear hY hn ha1 h2 h3 HY0
      go_enter Tryz.func38, Tryz.ntmps38
      go_wp2_with fail
      refine HL.out.mono ?_
      rintro e w1 ⟨rfl, rfl⟩
      go_wp2_with fail
      refine HF.out.mono ?_
      rintro e w2 ⟨rfl, W2, o2⟩
      have W2 := Lib.hid W2
      have O2 := Lib.hid o2
      have R2 := Lib.hid (lst_ow HR.out H.out o2)
      have c0 : w2.cell? ⟨g, 0, none⟩ = some (.pointer (some ⟨r, 0, none⟩)) := W2.out.1.cell 0
      clear o2 HL HF
      rcases hg : got Di N a1 (M - a1) with _ | j
      · have HG := Lib.hid (rgot_no HD.out R2.out W2.out HS.out (by rw [← HM.out]; exact H2.out) (by rw [← HN.out, ← HM.out]; exact hg))
        rw [← HN.out, ← HM.out] at HG
        have hE := gotE_pos N a1 (M - a1) hg
        have HY : Hid (disM Di N M a1 n len = .err (gotE Di N a1 (M - a1))) := Lib.hid (dis_none hg)
        obtain ⟨E, hEE⟩ : ∃ E, E = gotE Di N a1 (M - a1) := ⟨_, rfl⟩
        rw [← hEE] at HG HY hE
        have hE' : (E != 0) = true := by simp [hE]
        have HE := Lib.hid hE
        clear hg hEE hE
        go_wp2_with fail
        refine HG.out.mono ?_
        rintro e w3 ⟨rfl, W3, o3⟩
        go_wp2
        go_ret
        rw [HY.out]
        exact didW.err rfl W3 (O2.out.trans o3) (by rw [← HM.out]; exact H2.out) HE.out
      · have HJ := Lib.hid (got_pos HD.out.h15 hg)
        have HG := rgot_yes HD.out R2.out W2.out HS.out (by rw [← HM.out]; exact H2.out) (by rw [← HN.out, ← HM.out]; exact hg)
        obtain ⟨a2, ha2⟩ : ∃ a2, a2 = a1 + nth Di j := ⟨_, rfl⟩
        rw [← ha2] at HG
        have HG := Lib.hid HG
        have HA2 := Lib.hid ha2
        have H22 : Hid (a2 ≤ M) := Lib.hid (by have := HJ.out; have := H2.out; omega)
        have HGG := Lib.hid hg
        have hj320 : j < 320 := by have := HJ.out.1; have := HD.out.len; omega
        clear hg ha2
        go_wp2_with fail
        refine HG.out.mono ?_
        rintro e w3 ⟨rfl, W3, o3⟩
        have W3 := Lib.hid W3
        have O3 := Lib.hid (O2.out.trans o3)
        clear o3 HG c0 O2 R2 W2
        rcases (show 29 < j ∨ j < 30 by omega) with hj | hj
        · have HL := Lib.hid (rDist_any (z := (j : Int)) (by omega) (by omega) w3)
          rw [disA_out (.inr (by omega))] at HL
          have HY : Hid (disM Di N M a1 n len = .err 9) := Lib.hid (dis_code HGG.out hj)
          go_wp2_with fail
          refine HL.out.mono ?_
          rintro e w4 ⟨rfl, rfl⟩
          go_wp2
          go_ret
          rw [HY.out]
          exact didW.err rfl W3.out O3.out (by rw [← HM.out]; exact H22.out) (by decide)
        · have HL := rDist_any (z := (j : Int)) (by omega) (by omega) w3
          rw [disA_in hj] at HL
          have hfb := fb2_le hj
          have hdB := dB_le j hj
          have h5 := dB_sum hj (peekN_lt N a2 (fb 2 j))
          have h4s : M - a2 < fb 2 j → disM Di N M a1 n len = .err 2 := fun h => dis_short HGG.out hj (by rw [← HA2.out]; exact h)
          have h4f : ¬ M - a2 < fb 2 j → len < dB j + peekN N a2 (fb 2 j) → disM Di N M a1 n len = .err 10 := fun h hd => dis_far HGG.out hj (by rw [← HA2.out]; exact h) (by rw [← HA2.out]; exact hd)
          have h4c : ¬ M - a2 < fb 2 j → ¬ len < dB j + peekN N a2 (fb 2 j) → disM Di N M a1 n len = .copy (a2 + fb 2 j) n (dB j + peekN N a2 (fb 2 j)) := fun h hd => by rw [HA2.out]; exact dis_copy HGG.out hj (by rw [← HA2.out]; exact h) (by rw [← HA2.out]; exact hd)
          obtain ⟨d0, hd0⟩ : ∃ x, x = dB j := ⟨_, rfl⟩
          obtain ⟨f0, hf0⟩ : ∃ x, x = fb 2 j := ⟨_, rfl⟩
          rw [← hd0, ← hf0] at HL h5 h4f h4c
          rw [← hf0] at h4s hfb
          rw [← hd0] at hdB
          have HL := Lib.hid HL
          have H5 := Lib.hid h5
          have H4f := Lib.hid h4f
          have H4c := Lib.hid h4c
          have H4s := Lib.hid h4s
          clear h5 h4s h4f h4c hd0 hf0 hj
          go_wp2_with fail
          refine HL.out.mono ?_
          rintro e w4 ⟨rfl, rfl⟩
          clear HL
          rcases (show M - a2 < f0 ∨ a2 + f0 ≤ M by have := H22.out; omega) with h4 | h4
          · have HF := Lib.hid (rfurther_short (z := (f0 : Int)) (y := (d0 : Int)) rfl rfl (by omega) (by omega) W3.out HS.out (by rw [← HM.out]; exact H22.out) (by rw [← HM.out]; exact h4))
            have HY := Lib.hid (H4s.out h4)
            clear h4
            go_wp2_with fail
            refine HF.out.mono ?_
            rintro e w5 ⟨rfl, W5, o5⟩
            go_wp2
            go_ret
            rw [HY.out]
            exact didW.err rfl W5 (O3.out.trans o5) (by rw [← HM.out]; exact H22.out) (by decide)
          · have HF := rfurther_has (z := (f0 : Int)) (y := (d0 : Int)) rfl rfl (by omega) (by omega) W3.out HS.out (by rw [← HM.out]; exact h4)
            rw [← HN.out] at HF
            have h5 := H5.out
            have h6 := H4f.out (by omega)
            have h7 := H4c.out (by omega)
            obtain ⟨D, hDe⟩ : ∃ D, D = d0 + peekN N a2 f0 := ⟨_, rfl⟩
            obtain ⟨a3, ha3⟩ : ∃ a3, a3 = a2 + f0 := ⟨_, rfl⟩
            rw [← hDe] at HF h5 h6 h7
            rw [← ha3] at HF h4 h7
            have HF := Lib.hid HF
            have H6 := Lib.hid h6
            have H7 := Lib.hid h7
            have H4 := Lib.hid h4
            clear h4 h6 h7 hDe ha3 H4f H4c H4s H5
            go_wp2_with fail
            refine HF.out.mono ?_
            rintro e w5 ⟨rfl, W5, o5⟩
            have W5 := Lib.hid W5
            have O5 := Lib.hid (O3.out.trans o5)
            clear HF o5 W3 O3
            obtain ⟨b, cp, rfl, _⟩ := W5.out.2.2.1.block
            rw [← HLN.out] at H W5
            have c1 : w5.cell? ⟨g, 1, none⟩ = some (.slice (some ⟨b, 0, none⟩) len cp) := W5.out.1.cell 1
            have hD2 : ¬ (32768 : Int) < (D : Int) := by omega
            by_cases hfar : len < D
            · have hgt : (len : Int) < (D : Int) := by omega
              have HY := Lib.hid (H6.out hfar)
              clear hfar
              go_wp2
              go_ret
              rw [HY.out]
              exact didW.err rfl (by rw [← HLN.out]; exact W5.out) O5.out (by rw [← HM.out]; exact H4.out) (by decide)
            · have hgt : ¬ (len : Int) < (D : Int) := by omega
              have HY := Lib.hid (H7.out hfar)
              have HFR := Lib.hid hfar
              have HN3 := Lib.hid H3.out
              go_wp2
              clear hgt hD2 hfar
              go_loopw [19] (fun s19 wr => ∃ (k : Nat) (v1 : Value), s19 = .int .i64 (k : Int) ∧ k ≤ n ∧ Hid (wk wr g r s a3 v1 (c ++ Wm.out c D k) pre) ∧ Hid (Only (ow g r (.slice (some ⟨b, 0, none⟩) len cp)) w wr ∧ lat w (.slice (some ⟨b, 0, none⟩) len cp) v1)) (fun s19 _ => n - (intOf s19).toNat)
              case atStart => exact ⟨0, _, rfl, Nat.zero_le _, Lib.hid (by have := W5.out; simpa [Wm.out, Wm.ext] using this), Lib.hid ⟨O5.out, lat.refl _ _⟩⟩
              case round =>
                obtain ⟨k, v1, rfl, hk, W6, O6⟩ := hrel
                clear c1
                by_cases hkn : k = n
                · have hlt : ¬ ((k : Int) < (n : Int)) := by omega
                  have HK := Lib.hid hkn
                  clear hkn
                  go_wp2
                  go_ret
                  rw [HY.out]
                  exact ⟨rfl, v1, a3, by have := W6.out; rw [HK.out] at this; exact this, by rw [← HM.out]; exact H4.out, fun _ => rfl, O6.out⟩
                · have hlt : ((k : Int) < (n : Int)) := by omega
                  have HK : Hid (k + 1 ≤ n) := Lib.hid (by omega)
                  have hk258 : k < 258 := by have := H3.out; omega
                  clear hkn
                  obtain ⟨b6, cp6, rfl, hcp6, hb6, _, hcell⟩ := W6.out.2.2.1.block
                  obtain ⟨X, hX⟩ : ∃ X, X = (c ++ Wm.out c D k).length := ⟨_, rfl⟩
                  have hX2 : X = len + k := by rw [hX, List.length_append, Wm.out_length, HLN.out]
                  have h3 := H3.out
                  have hlenb : len ≤ 1999000 := by rw [HLN.out]; exact HC.out
                  have hFR := HFR.out
                  obtain ⟨P, hP⟩ : ∃ P, P = X - D := ⟨_, rfl⟩
                  have hPX : P < X := by omega
                  have hsub : (X : Int) - (D : Int) = (P : Int) := by omega
                  rw [← hX] at hcell W6 hcp6
                  obtain ⟨x, hx⟩ : ∃ x, x = (c ++ Wm.out c D k).getD P 0 := ⟨_, rfl⟩
                  have cb : wr.cell? ⟨b6, P, none⟩ = some (.int .u8 (x.toNat : Int)) := by
                    rw [hcell P hPX, hx, List.getD_eq_getElem?_getD, List.getElem?_eq_getElem (by rw [← hX]; exact hPX)]; rfl
                  have HX1 : Hid (Wm.out c D k ++ [x] = Wm.out c D (k + 1)) := Lib.hid (by rw [Wm.out_next, Wm.ext_out, hx, hP, hX2, HLN.out])
                  have HXL : Hid ((c ++ Wm.out c D k).length ≤ 2000000) := Lib.hid (by rw [← hX]; omega)
                  have c1 : wr.cell? ⟨g, 1, none⟩ = some (.slice (some ⟨b6, 0, none⟩) X cp6) := W6.out.1.cell 1
                  have hPw : IntKind.i64.wrap (P : Int) = (P : Int) := by rw [IntKind.wrap_i64]; omega
                  have hPi : (P : Int) < (X : Int) := by omega
                  have hXb : (X : Int) ≤ 9000000 := by omega
                  have HW6 : Hid (wk wr g r s a3 (.slice (some ⟨b6, 0, none⟩) X cp6) (c ++ Wm.out c D k) pre) := Lib.hid W6.out
                  clear hX hX2 h3 hlenb hFR hP hcell hx W6
                  go_wp2_with fail
                  go_still_tail 14, (by kernel_rfl)
                  go_wp2_with fail
                  refine (rput_any x rfl (HW6.out.below ((Below.refl _ wr).drew)) HXL.out).mono ?_
                  rintro e w7 ⟨rfl, v7, W7, o7, l7⟩
                  have G7 := Lib.hid (ow.trans O6.out.1.drew O6.out.2 o7 l7)
                  rw [List.append_assoc, HX1.out] at W7
                  have W7 := Lib.hid W7
                  clear o7 l7 c1 cb
                  go_wp2
                  go_roundw
                  case measure => have := HK.out; simp [intOf]; omega
                  case rel => exact ⟨k + 1, v7, rfl, HK.out, W7, G7⟩
end
end Go.Proofs.YtkcnjhkbcjnbkaaGreatDoor.Irc
namespace Go.Proofs.YtkcnjhkbcjnbkaaGreatDoor.Ird
open Go.RowKit Go.Proofs.YtkcnjhkbcjnbkaaGreatDoor.Vm Go.Proofs.YtkcnjhkbcjnbkaaGreatDoor.Vo Go.Proofs.YtkcnjhkbcjnbkaaGreatDoor.Bm Go.Proofs.YtkcnjhkbcjnbkaaGreatDoor.Bw Go.Proofs.YtkcnjhkbcjnbkaaGreatDoor.Bp Go.Proofs.YtkcnjhkbcjnbkaaGreatDoor.Bs Go.Proofs.YtkcnjhkbcjnbkaaGreatDoor.Bq Go.Proofs.YtkcnjhkbcjnbkaaGreatDoor.Be Go.Proofs.YtkcnjhkbcjnbkaaGreatDoor.Na Go.Proofs.YtkcnjhkbcjnbkaaGreatDoor.Ne Go.Proofs.YtkcnjhkbcjnbkaaGreatDoor.Nm Go.Proofs.YtkcnjhkbcjnbkaaGreatDoor.Wr Go.Proofs.YtkcnjhkbcjnbkaaGreatDoor.Wc Go.Proofs.YtkcnjhkbcjnbkaaGreatDoor.Ww Go.Proofs.YtkcnjhkbcjnbkaaGreatDoor.Pm Go.Proofs.YtkcnjhkbcjnbkaaGreatDoor.Pr Go.Proofs.YtkcnjhkbcjnbkaaGreatDoor.Kc Go.Proofs.YtkcnjhkbcjnbkaaGreatDoor.Kd Go.Proofs.YtkcnjhkbcjnbkaaGreatDoor.Ke Go.Proofs.YtkcnjhkbcjnbkaaGreatDoor.Km Go.Proofs.YtkcnjhkbcjnbkaaGreatDoor.Sm Go.Proofs.YtkcnjhkbcjnbkaaGreatDoor.Sp Go.Proofs.YtkcnjhkbcjnbkaaGreatDoor.Sr Go.Proofs.YtkcnjhkbcjnbkaaGreatDoor.Me Go.Proofs.YtkcnjhkbcjnbkaaGreatDoor.Fm Go.Proofs.YtkcnjhkbcjnbkaaGreatDoor.Fa Go.Proofs.YtkcnjhkbcjnbkaaGreatDoor.Ga Go.Proofs.YtkcnjhkbcjnbkaaGreatDoor.Im Go.Proofs.YtkcnjhkbcjnbkaaGreatDoor.Ia Go.Proofs.YtkcnjhkbcjnbkaaGreatDoor.Ie Go.Proofs.YtkcnjhkbcjnbkaaGreatDoor.Ih Go.Proofs.YtkcnjhkbcjnbkaaGreatDoor.Ira Go.Proofs.YtkcnjhkbcjnbkaaGreatDoor.Irb Go.Proofs.YtkcnjhkbcjnbkaaGreatDoor.Irc

theorem cop_kind (Di : List Nat) (N M a i len : Nat) : (∃ e, copM Di N M a i len = .err e) ∨ ∃ b n d, copM Di N M a i len = .copy b n d := by
  unfold copM
  split
  · exact .inl ⟨_, rfl⟩
  · split
    · exact .inl ⟨_, rfl⟩
    · unfold disM
      split
      · exact .inl ⟨_, rfl⟩
      · split
        · exact .inl ⟨_, rfl⟩
        · split
          · exact .inl ⟨_, rfl⟩
          · split
            · exact .inl ⟨_, rfl⟩
            · exact .inr ⟨_, _, _, rfl⟩
section
variable {w w' : World} {g r : Nat} {s : ByteArray} {a : Nat} {v : Value} {c : List UInt8} {pre : Nat}
theorem blk_ow {y : Nat} {t : TypeId} {cs : Array Value} (h : Blk w y t cs) (k : wk w g r s a v c pre) (o : Only (ow g r v) w w') (h1 : t ≠ 64) (h2 : t ≠ 66) (h3 : 5 ≠ t) : Blk w' y t cs := h.only o (fun e => by
  rcases e with rfl | rfl | e
  · exact h.apart k.1 h1 rfl
  · exact h.apart k.2.1 h2 rfl
  · exact k.2.2.1.apart h h3 _ e rfl)

/-- The coded block's work, on its way: x has been made. -/
structure cway (w : World) (g r : Nat) (s : ByteArray) (v : Value) (c : List UInt8) (pre : Nat) (Li Di : List Nat) (N M a y : Nat) (vL vD : Value) (cs : Array Value) (a' : Nat) (v' : Value) (x : List UInt8) (u : World) : Prop where
  k : wk u g r s a' v' (c ++ x) pre
  le : a' ≤ M
  eq : codM Li Di N M a c = ((codM Li Di N M a' (c ++ x)).1, (codM Li Di N M a' (c ++ x)).2.1, x ++ (codM Li Di N M a' (c ++ x)).2.2)
  o : Only (ow g r v) w u
  l : lat w v v'
  b : Blk u y 68 cs
  l1 : lst u vL Li
  l2 : lst u vD Di
variable {Li Di : List Nat} {N M y : Nat} {vL vD : Value} {cs : Array Value} {a' : Nat} {v' : Value} {x : List UInt8} {u u2 : World}
theorem cway.on {a2 : Nat} {v2 : Value} {z : List UInt8} (h : cway w g r s v c pre Li Di N M a y vL vD cs a' v' x u) (k : wk u2 g r s a2 v2 (c ++ x ++ z) pre) (o : Only (ow g r v') u u2) (l : lat u v' v2) (hle : a2 ≤ M)
    (e : codM Li Di N M a' (c ++ x) = ((codM Li Di N M a2 (c ++ x ++ z)).1, (codM Li Di N M a2 (c ++ x ++ z)).2.1, z ++ (codM Li Di N M a2 (c ++ x ++ z)).2.2)) :
    cway w g r s v c pre Li Di N M a y vL vD cs a2 v2 (x ++ z) u2 :=
  ⟨by rw [← List.append_assoc]; exact k, hle, by rw [h.eq, e, ← List.append_assoc, ← List.append_assoc], (ow.trans h.o h.l o l).1, (ow.trans h.o h.l o l).2, blk_ow h.b h.k o (by decide) (by decide) (by decide), lst_ow h.l1 h.k o, lst_ow h.l2 h.k o⟩
theorem cway.done {a2 : Nat} {e : Int} {p : Nat} (h : cway w g r s v c pre Li Di N M a y vL vD cs a' v' x u) (hM : M = 8 * s.size) (k : wk u2 g r s a2 v' (c ++ x) pre) (o : Only (ow g r v') u u2) (h2 : a2 ≤ M) (he : codM Li Di N M a' (c ++ x) = (e, p, [])) (hp : e = 0 → a2 = p) :
    didW w g r s v c pre (codM Li Di N M a c) (.returned (.int .i64 e)) u2 := by
  rw [h.eq, he, List.append_nil]
  exact ⟨rfl, v', a2, k, by rw [← hM]; exact h2, hp, ow.trans h.o h.l o (lat.refl _ _)⟩

set_option maxHeartbeats 4000000 in
set_option maxRecDepth 100000 in
theorem rcoded_any {fb : Bool} {kd z : Int} {A1 A2 : Option Addr} {n1 c1 n2 c2 : Nat} (h : wk w g r s a v c pre) (l1 : lst w (.slice A1 n1 c1) Li) (l2 : lst w (.slice A2 n2 c2) Di) (hL : code Li) (hD : code Di) (hs : s.size ≤ 281474976710656) (ha : a ≤ 8 * s.size) (hc : c.length + 258 * (8 * s.size - a) ≤ 1999000) :
    Calls Tryz.prog 24 #[.pointer (some ⟨g, 0, none⟩), hv fb kd z (.slice A1 n1 c1) (.slice A2 n2 c2)] w (didW w g r s v c pre (codM Li Di (num s.data.toList) (8 * s.size) a c)) := by
  obtain ⟨N, hN⟩ : ∃ N, N = num s.data.toList := ⟨_, rfl⟩
  obtain ⟨M, hM⟩ : ∃ M, M = 8 * s.size := ⟨_, rfl⟩
  rw [← hN, ← hM]
  rw [← hM] at ha hc
  have HN := Lib.hid hN
  have HM := Lib.hid hM
  have HS := Lib.hid hs
  have HL := Lib.hid hL
  have HD := Lib.hid hD
  have HC := Lib.hid (show ∀ a' x, codM Li Di N M a c = ((codM Li Di N M a' (c ++ x)).1, (codM Li Di N M a' (c ++ x)).2.1, x ++ (codM Li Di N M a' (c ++ x)).2.2) → (c ++ x).length ≤ 1999000 from fun a' x e => by
    have f := (cod_facts (N := N) hL.h15 hD.h15 (M - a) a c (Nat.le_refl _) ha).1
    rw [e] at f
    simp only [List.length_append] at f ⊢
    omega)
  obtain ⟨w1, hw1⟩ : ∃ w1, w1 = w.alloc (.cells #[.bool fb, .int .i64 kd, .int .i64 z, .slice A1 n1 c1, .slice A2 n2 c2] 68) := ⟨_, rfl⟩
  have b1 : Below w.heap.size w w1 := by rw [hw1]; exact (Below.refl _ w).alloc (Nat.le_refl _) _
  have W1 : Hid (cway w g r s v c pre Li Di N M a w.heap.size (.slice A1 n1 c1) (.slice A2 n2 c2) #[.bool fb, .int .i64 kd, .int .i64 z, .slice A1 n1 c1, .slice A2 n2 c2] a v [] w1) := Lib.hid ⟨by rw [List.append_nil]; exact h.below b1, ha, by rw [List.append_nil, List.nil_append], Only.of_below b1, lat.refl _ _, by rw [hw1]; exact Blk.fresh _ _ _, l1.below b1, l2.below b1⟩
  clear hN hM hs hL hD b1 h l1 l2 ha hc
  unfold hv
  go_enter Tryz.func24, Tryz.ntmps24
  go_wp2_with fail
  rw [← hw1]
  clear hw1
  go_loopg [] (M - a) (fun gk wr => ∃ (a' : Nat) (v' : Value) (x : List UInt8), Hid (gk = M - a') ∧ Hid (cway w g r s v c pre Li Di N M a w.heap.size (.slice A1 n1 c1) (.slice A2 n2 c2) #[.bool fb, .int .i64 kd, .int .i64 z, .slice A1 n1 c1, .slice A2 n2 c2] a' v' x wr))
  case atStart => exact ⟨a, v, [], Lib.hid rfl, W1⟩
  case round =>
    obtain ⟨a', v', x, HG, WW⟩ := hrel
    clear W1
    have hB : Below wr.heap.size wr wr.drew := (Below.refl _ wr).drew
    have d0 : wr.cell? ⟨g, 0, none⟩ = some (.pointer (some ⟨r, 0, none⟩)) := WW.out.k.1.cell 0
    have d3 : wr.cell? ⟨w.heap.size, 3, none⟩ = some (.slice A1 n1 c1) := WW.out.b.cell 3
    have HK : Hid (wk wr.drew g r s a' v' (c ++ x) pre) := Lib.hid (WW.out.k.below hB)
    have HL1 : Hid (lst wr.drew (.slice A1 n1 c1) Li) := Lib.hid (WW.out.l1.below hB)
    have HLC := Lib.hid (HC.out a' x WW.out.eq)
    have HOD : Hid (∀ u, Only (ow g r v') wr.drew u → Only (ow g r v') wr u) := Lib.hid (fun u o => (Only.of_below hB).trans o)
    clear hB
    rcases hg : got Li N a' (M - a') with _ | i
    · have HR := Lib.hid (rgot_no HL.out HL1.out HK.out HS.out (by rw [← HM.out]; exact WW.out.le) (by rw [← HN.out, ← HM.out]; exact hg))
      rw [← HN.out, ← HM.out] at HR
      have hE := gotE_pos N a' (M - a') hg
      have HY : Hid (codM Li Di N M a' (c ++ x) = (gotE Li N a' (M - a'), a', [])) := Lib.hid (cod_err (sym_none hg))
      obtain ⟨E, hEE⟩ : ∃ E, E = gotE Li N a' (M - a') := ⟨_, rfl⟩
      rw [← hEE] at HR HY hE
      have hE' : (E != 0) = true := by simp [hE]
      have HE := Lib.hid hE
      clear hg hEE hE
      go_wp2_with fail
      go_region_held3 (fun u => u.cell? ⟨g, 0, none⟩ = some (.pointer (some ⟨r, 0, none⟩)) ∧ u.cell? ⟨w.heap.size, 3, none⟩ = some (.slice A1 n1 c1))
        (first | exact ⟨d0, d3⟩ | assumption)
        (first | (go_at_call 37; refine HR.out.mono ?_; rintro e w2 ⟨rfl, k2, o2⟩; have K2 := Lib.hid k2; have O2 := Lib.hid o2; have p2 : w2.cell? ⟨g, 0, none⟩ = some (.pointer (some ⟨r, 0, none⟩)) ∧ w2.cell? ⟨w.heap.size, 3, none⟩ = some (.slice A1 n1 c1) := ⟨k2.1.cell 0, (blk_ow WW.out.b WW.out.k (HOD.out _ o2) (by decide) (by decide) (by decide)).cell 3⟩))
      go_wp2
      go_ret
      exact WW.out.done HM.out K2.out (HOD.out _ O2.out) WW.out.le HY.out (fun e => absurd e HE.out)
    · have hp := got_pos HL.out.h15 hg
      have HR := rgot_yes HL.out HL1.out HK.out HS.out (by rw [← HM.out]; exact WW.out.le) (by rw [← HN.out, ← HM.out]; exact hg)
      have hi320 : i < 320 := by have := HL.out.len; omega
      obtain ⟨a1, ha1⟩ : ∃ a1, a1 = a' + nth Li i := ⟨_, rfl⟩
      rw [← ha1] at HR
      have HR := Lib.hid HR
      have HA1 : Hid (a' < a1 ∧ a1 ≤ M) := Lib.hid (by have := WW.out.le; omega)
      have HGG := Lib.hid hg
      have HAA := Lib.hid ha1
      clear hg hp ha1
      go_wp2_with fail
      go_region_held3 (fun u => u.cell? ⟨g, 0, none⟩ = some (.pointer (some ⟨r, 0, none⟩)) ∧ u.cell? ⟨w.heap.size, 3, none⟩ = some (.slice A1 n1 c1))
        (first | exact ⟨d0, d3⟩ | assumption)
        (first | (go_at_call 37; refine HR.out.mono ?_; rintro e w2 ⟨rfl, k2, o2⟩; have K2 := Lib.hid k2; have O2 := Lib.hid o2; have p2 : w2.cell? ⟨g, 0, none⟩ = some (.pointer (some ⟨r, 0, none⟩)) ∧ w2.cell? ⟨w.heap.size, 3, none⟩ = some (.slice A1 n1 c1) := ⟨k2.1.cell 0, (blk_ow WW.out.b WW.out.k (HOD.out _ o2) (by decide) (by decide) (by decide)).cell 3⟩))
      have O2' := Lib.hid (HOD.out _ O2.out)
      have hL2 := lst_ow WW.out.l2 WW.out.k O2'.out
      have HL2 := Lib.hid hL2
      have d4 : w2.cell? ⟨w.heap.size, 4, none⟩ = some (.slice A2 n2 c2) := (blk_ow WW.out.b WW.out.k O2'.out (by decide) (by decide) (by decide)).cell 4
      clear hL2 d0 d3 k2 o2 p2 HR O2 HOD HK HL1
      rcases (show i = 256 ∨ i < 256 ∨ 256 < i by omega) with hi | hi | hi
      · have HY : Hid (codM Li Di N M a' (c ++ x) = (0, a1, [])) := Lib.hid (by rw [HAA.out]; exact cod_fin (sym_fin HGG.out hi))
        have hi1 : (i : Int) = 256 := by omega
        clear hi
        go_wp2
        go_ret
        exact WW.out.done HM.out K2.out O2'.out HA1.out.2 HY.out (fun _ => rfl)
      · have hi1 : ((i : Int) == 256) = false := by simp; omega
        obtain ⟨yb, hyb⟩ : ∃ yb, yb = UInt8.ofNat i := ⟨_, rfl⟩
        have HYB : Hid ((i : Int) = (yb.toNat : Int)) := Lib.hid (by rw [hyb, UInt8.toNat_ofNat_of_lt' (by omega)])
        have hs1 := sym_byte (Di := Di) (len := (c ++ x).length) HGG.out hi
        rw [← HAA.out] at hs1
        have HY := cod_byte hs1 HA1.out
        rw [← hyb] at HY
        have HY := Lib.hid HY
        have HP := Lib.hid (rput_any yb HYB.out K2.out (by have := HLC.out; omega))
        clear hs1 hyb
        go_wp2_with fail
        refine HP.out.mono ?_
        rintro e w3 ⟨rfl, v3, k3, o3, l3⟩
        have G3 := Lib.hid (WW.out.on k3 (ow.trans O2'.out (lat.refl _ _) o3 l3).1 (ow.trans O2'.out (lat.refl _ _) o3 l3).2 HA1.out.2 HY.out)
        clear k3 o3 l3
        go_wp2
        go_roundg (M - a1)
        case measure => have := HG.out; have := HA1.out; omega
        case rel => exact ⟨a1, v3, x ++ [yb], Lib.hid rfl, G3⟩
      · have hi1 : ((i : Int) == 256) = false := by simp; omega
        have hi2 : ¬ ((i : Int) < 256) := by omega
        have hcp := rcopied_any (z := (i : Int)) rfl K2.out HL2.out HD.out hi (by omega) HS.out (by rw [← HM.out]; exact HA1.out.2) HLC.out
        rw [← HN.out, ← HM.out] at hcp
        have hsc := sym_cop (Di := Di) (len := (c ++ x).length) HGG.out hi
        rw [← HAA.out] at hsc
        have hok := sym_ok (N := N) (M := M) (a := a') (len := (c ++ x).length) HL.out.h15 HD.out.h15 WW.out.le
        rcases cop_kind Di N M a1 i (c ++ x).length with ⟨E, ek⟩ | ⟨bb, nn, dd, ek⟩
        · rw [ek] at hcp hsc
          rw [hsc] at hok
          have HE : Hid (E ≠ 0) := Lib.hid hok
          have hE' : (E != 0) = true := by simp [HE.out]
          have HY := Lib.hid (cod_err hsc)
          have HCP := Lib.hid (hcp.mono (fun e w' h => show e = .returned (.int .i64 E) ∧ ∃ v2 a2, wk w' g r s a2 v2 (c ++ x) pre ∧ a2 ≤ 8 * s.size ∧ Only (ow g r v') w2 w' ∧ lat w2 v' v2 from by
            obtain ⟨e1, v2, a2, k, h2, _, o, l⟩ := h
            exact ⟨e1, v2, a2, by simpa [syR] using k, h2, o, l⟩))
          clear hcp hsc hok ek hi
          go_wp2_with fail
          refine HCP.out.mono ?_
          rintro e w3 ⟨rfl, v3, a3, k3, h3, o3, l3⟩
          have K3 := Lib.hid k3
          have H3 := Lib.hid h3
          have O3 := Lib.hid (ow.trans O2'.out (lat.refl _ _) o3 l3)
          clear k3 h3 o3 l3
          go_wp2
          go_ret
          have e9 := HY.out
          refine ⟨by (rw [WW.out.eq, e9]; rfl), v3, a3, ?_, H3.out, ?_, ow.trans WW.out.o WW.out.l O3.out.1 O3.out.2⟩
          · rw [WW.out.eq, e9, List.append_nil]; exact K3.out
          · rw [WW.out.eq, e9]
            exact fun e => absurd e HE.out
        · rw [ek] at hcp hsc
          rw [hsc] at hok
          have HB : Hid (a' < bb ∧ bb ≤ M) := Lib.hid ⟨hok.1, hok.2.1⟩
          have HY := Lib.hid (cod_copy hsc HB.out)
          have HCP := Lib.hid (hcp.mono (fun e w' h => show e = .returned (.int .i64 0) ∧ ∃ v2, wk w' g r s bb v2 (c ++ x ++ Wm.out (c ++ x) dd nn) pre ∧ Only (ow g r v') w2 w' ∧ lat w2 v' v2 from by
            obtain ⟨e1, v2, a2, k, h2, e2, o, l⟩ := h
            obtain rfl : a2 = bb := e2 rfl
            exact ⟨e1, v2, k, o, l⟩))
          clear hcp hsc hok ek hi
          go_wp2_with fail
          refine HCP.out.mono ?_
          rintro e w3 ⟨rfl, v3, k3, o3, l3⟩
          have G3 := Lib.hid (WW.out.on k3 (ow.trans O2'.out (lat.refl _ _) o3 l3).1 (ow.trans O2'.out (lat.refl _ _) o3 l3).2 HB.out.2 HY.out)
          clear k3 o3 l3
          go_wp2
          go_roundg (M - bb)
          case measure => have := HG.out; have := HB.out; omega
          case rel => exact ⟨bb, v3, x ++ Wm.out (c ++ x) dd nn, Lib.hid rfl, G3⟩
end
end Go.Proofs.YtkcnjhkbcjnbkaaGreatDoor.Ird
