/-
  The program's escape: the walk.
  The program's char.
  Conditions: as each theorem says.
-/
import Derived.Test.YtabcehifdomolaaDoorQan
import Derived.Deep.DeepCutAuto
import Derived.Deep.RegionHeld3
namespace Go.Proofs.YtabcehifdomolaaDoor.Ex
open Go.RowKit Go.PlainAid Go.Proofs.YtabcehifdomolaaDoor.Vm Go.Proofs.YtabcehifdomolaaDoor.Vo Go.Proofs.YtabcehifdomolaaDoor.Bw Go.Proofs.YtabcehifdomolaaDoor.Na Go.Proofs.YtabcehifdomolaaDoor.Tm Go.Proofs.YtabcehifdomolaaDoor.Ts Go.Proofs.YtabcehifdomolaaDoor.Ta Go.Proofs.YtabcehifdomolaaDoor.Tb Go.Proofs.YtabcehifdomolaaDoor.Tf Go.Proofs.YtabcehifdomolaaDoor.Rm Go.Proofs.YtabcehifdomolaaDoor.Rs Go.Proofs.YtabcehifdomolaaDoor.Ra Go.Proofs.YtabcehifdomolaaDoor.Ep Go.Proofs.YtabcehifdomolaaDoor.Em Go.Proofs.YtabcehifdomolaaDoor.Ek Go.Proofs.YtabcehifdomolaaDoor.Er Go.Proofs.YtabcehifdomolaaDoor.Eo Go.Proofs.YtabcehifdomolaaDoor.Es Go.Proofs.YtabcehifdomolaaDoor.Et

theorem over4_below {B g : Nat} {W w : World} (h : Below B W w) (hg : B ≤ g) (hB : B ≤ w.heap.size) (u0 u1 u2 u3 : Value) : Below B W ((((w.setCell ⟨g, 0, none⟩ u0).setCell ⟨g, 1, none⟩ u1).setCell ⟨g, 2, none⟩ u2).setCell ⟨g, 3, none⟩ u3) := (only4 (w := w) (g := g) u0 u1 u2 u3).below h hB (fun i e => by subst e; exact hg)
theorem and3 {a b p : Prop} (x : a ∧ b) (y : p) : a ∧ b ∧ p := ⟨x.1, x.2, y⟩
set_option maxHeartbeats 4000000 in
set_option maxRecDepth 100000 in
theorem escape_any {g : Nat} {s : ByteArray} {a : Nat} (hs : s.size ≤ 1000000) {r1 : List Nat} (hr : rst s a = 92 :: r1) {w : World} (H : Hid (par w g s a 0 0)) :
    Calls Tryd.prog 77 #[.pointer (some ⟨g, 0, none⟩)] w fun e w' => ∃ z, e = .returned (.agg (sv z)) ∧ chrA s g (escP r1) z w' ∧ Only (· = g) w w' := by
  obtain ⟨hal, _, _, hr1⟩ := rst_next hr
  have hlen := rst_len s (a + 1)
  rw [hr1] at hlen
  have hbytes := rst_bytes s (a + 1)
  rw [hr1] at hbytes
  obtain ⟨hzs, hzn, hzz⟩ := esc_mean r1 hbytes
  obtain ⟨t, htl, htr, hcut⟩ := cut_rest (s := s) (k := a + 1) (by omega)
  have HM : Hid (∀ w, Calls Tryd.prog 89 #[.string t] w fun e w' => e = .returned (setI (meanQ r1)) ∧ Below w.heap.size w w') := Lib.hid (fun w => by have := meaning_any t (by omega) w; rw [htr, hr1] at this; exact this)
  have hcut2 : ∀ u : World, (Instr.slice 9 (.string s) (some (.int .i64 ((a : Int) + 1))) none none).run Tryd.prog u = .ok (.string t) u := hcut
  have HZZ := Lib.hid hzz
  obtain ⟨zm, m, hq⟩ : ∃ zm m, meanQ r1 = (zm, m) := ⟨_, _, rfl⟩
  rw [hq] at hzs hzn HZZ HM
  dsimp only at hzs hzn HZZ
  unfold setI at HM
  dsimp only at HM
  obtain ⟨x0, x1, x2, x3, hx⟩ := four_of hzs
  have HZS := Lib.hid hzs
  have HZM : Hid (sv zm = #[.int .u64 (x0 : Int), .int .u64 (x1 : Int), .int .u64 (x2 : Int), .int .u64 (x3 : Int)]) := Lib.hid (by rw [hx]; rfl)
  rw [HZM.out] at HM
  have HG := Lib.hid H.out.lt
  obtain ⟨w0, hw0⟩ : ∃ w0, w0 = w.alloc (.cells #[.int .u64 0, .int .u64 0, .int .u64 0, .int .u64 0] 36) := ⟨_, rfl⟩
  have P0 : par w0 g s a 0 0 := by rw [hw0]; exact H.out.below (below_alloc _ _)
  have B0 : Blk w0 w.heap.size 36 (sv zero) := by rw [hw0]; exact Blk.fresh _ _ _
  have O0 : Only (· = g) w w0 := by rw [hw0]; exact (Only.refl _ _).alloc _
  obtain ⟨w1, hw1⟩ : ∃ w1, w1 = w0.setCell ⟨g, 1, none⟩ (.int .i64 ((a : Int) + 1)) := ⟨_, rfl⟩
  have HB0 : Hid (bS w w1 g s (a + 1) 0 0 w.heap.size 36 (sv zero)) := Lib.hid (by
    rw [hw1]
    refine ⟨P0.step, B0.only (S := (· = g)) (Only.store (S := (· = g)) (Only.refl (· = g) w0) (p := ⟨g, 1, none⟩) (.inl rfl) _) (by have := HG.out; omega), O0.store (p := ⟨g, 1, none⟩) (.inl rfl) _⟩)
  have c1 := P0.c1
  have f1 := P0.frozen 1
  have ha1 : (a : Int) ≤ 1000000 := by omega
  have HA1 : Hid (a + 1 ≤ s.size) := Lib.hid hal
  have HLE : Hid (a + 1 + r1.length = s.size) := Lib.hid (by omega)
  have HMN : Hid (m ≤ r1.length) := Lib.hid hzn
  have HR1 := Lib.hid hr1
  have HS : Hid (∀ u, Below w1.heap.size w1 u → u.cell? ⟨g, 0, none⟩ = some (.string s) ∧ u.cell? ⟨g, 1, none⟩ = some (.int .i64 ((a : Int) + 1))) := Lib.hid (fun u k => by
    have p := HB0.out.p.below k
    exact ⟨p.c0, by have := p.c1; simpa using this⟩)
  have RA : Blk (w1.alloc (.cells #[.int .u64 0, .int .u64 0, .int .u64 0, .int .u64 0] 36)).drew w1.heap.size 36 (sv zero) := Blk.fresh w1 _ _
  have BE : Below w1.heap.size w1 (w1.alloc (.cells #[.int .u64 0, .int .u64 0, .int .u64 0, .int .u64 0] 36)).drew := (below_alloc w1 _).drew
  have HRA := Lib.hid RA
  have HBE := Lib.hid BE
  clear RA BE hr hal hlen P0 B0 O0 hbytes hzz htl htr hcut hq hzs hx hr1 hzn
  go_enter Tryd.func77, Tryd.ntmps77
  go_upto_region 1 with fail
  rw [← hw0]
  clear hw0
  go_upto_region 2 with fail
  rw [← hw1]
  clear hw1 c1 f1
  go_cut [3, 4] (fun s3 s4 wx => ∃ L : Nat, s3 = .pointer (some ⟨L, 0, none⟩) ∧ s4 = .int .i64 (m : Int) ∧ Hid (w.heap.size < L) ∧ Hid (Blk wx L 36 (sv zm)) ∧ Hid (bS w wx g s (a + 1) 0 0 w.heap.size 36 (sv zero)))
  case first =>
    have KD := And.intro (HS.out w1.drew (below_draws w1 1)) (below_draws w1 1)
    obtain ⟨⟨b0, b1⟩, bd⟩ := KD
    have hx1 : (0 : Int) ≤ (a : Int) + 1 := by omega
    go_region_held3 (fun u => u.cell? ⟨g, 0, none⟩ = some (.string s) ∧ u.cell? ⟨g, 1, none⟩ = some (.int .i64 ((a : Int) + 1)) ∧ Below w1.heap.size w1 u)
      (first | (with_reducible exact and3 (HS.out _ HBE.out) HBE.out) | (with_reducible exact and3 (HS.out _ (KB1.alloc KB1.size _)) (KB1.alloc KB1.size _)) | (with_reducible exact and3 (HS.out _ (over4_below KB1 (Nat.le_refl _) KB1.size (.int .u64 (x0 : Int)) (.int .u64 (x1 : Int)) (.int .u64 (x2 : Int)) (.int .u64 (x3 : Int)))) (over4_below KB1 (Nat.le_refl _) KB1.size (.int .u64 (x0 : Int)) (.int .u64 (x1 : Int)) (.int .u64 (x2 : Int)) (.int .u64 (x3 : Int)))) | (exact ⟨b0, b1, bd⟩) | (exact ⟨c0, c1, KB1⟩) | assumption)
      (first | (go_at_call 89; refine (HM.out _).mono ?_; rintro e w2 ⟨rfl, k2⟩; have KB1 := grows (show Below w1.heap.size w1 _ by first | (with_reducible exact bd) | (with_reducible exact HBE.out) | exact below_draws w1 1) k2; obtain ⟨c0, c1⟩ := HS.out w2 KB1; have HK9 := Lib.hid k2; try (obtain ⟨r0, r1', r2, r3⟩ := cells4 (x0 := 0) (x1 := 0) (x2 := 0) (x3 := 0) (Blk.below HRA.out k2); have f0 := Blk.frozen (Blk.below HRA.out k2) 0; have f1 := Blk.frozen (Blk.below HRA.out k2) 1; have f2 := Blk.frozen (Blk.below HRA.out k2) 2; have f3 := Blk.frozen (Blk.below HRA.out k2) 3); clear k2))
    all_goals
      simp only [Exit.then]
      go_wp2
      go_meet
      first
      | (exact ⟨_, rfl, rfl, Lib.hid (by have := Blk.lt HB0.out.b; have := KB1.size; omega), Lib.hid (by rw [HZM.out]; exact Blk.fresh w2 _ _), Lib.hid ((HB0.out.below KB1).below (below_alloc w2 _))⟩)
      | (exact ⟨_, rfl, rfl, Lib.hid (Blk.lt HB0.out.b), Lib.hid (by rw [HZM.out]; exact store4 (x0 := 0) (x1 := 0) (x2 := 0) (x3 := 0) (Blk.below HRA.out HK9.out)), Lib.hid (HB0.out.below (over4_below KB1 (Nat.le_refl _) KB1.size _ _ _ _))⟩)
  case rest =>
    obtain ⟨L, rfl, rfl, HL, HBL, HB1⟩ := hcut
    generalize wc = wc at *
    obtain ⟨z, hz⟩ : ∃ z, z = sv zm := ⟨_, rfl⟩
    obtain ⟨hz4, hz1⟩ := set4 HZS.out hz
    have HZ4 := Lib.hid hz4
    have HZ1 := Lib.hid hz1
    have HZE := Lib.hid hz
    have HGL : Hid (L ≠ g) := Lib.hid (by have := HL.out; have := HG.out; omega)
    have HBZ : Hid (Blk wc L 36 z) := Lib.hid (by rw [hz]; exact HBL.out)
    clear hz hz4 hz1 HBL HM HRA HBE HS hcut2 HB0
    rcases HZZ.out with ⟨h0, hz0, he⟩ | ⟨h0, o, he, ho⟩
    · have HE := Lib.hid he
      have HZ0 := Lib.hid hz0
      subst h0
      have d1 : wc.cell? ⟨g, 1, none⟩ = some (.int .i64 ((a : Int) + 1)) := by have := HB1.out.p.c1; simpa using this
      have HF := Lib.hid (fail_first 15 ((a : Int) + 1) HB1.out.p)
      clear he hz0 HZZ
      go_wp2_with (first | (go_at_call 23; refine HF.out.mono ?_; rintro e w3 ⟨rfl, p, o⟩; have HB2 := Lib.hid (HB1.out.next (Nat.le_refl _) HG.out p o); have HBZ2 := Lib.hid (HBZ.out.only o HGL.out); clear p o) | refine wpList_load_row rfl 36 _ rfl L rfl _ _ _ _ HBZ2.out Tryd.underlying36 rfl (fit HZ4.out) ?_ | (refine wpList_store_row rfl 36 _ _ rfl w.heap.size z rfl rfl _ _ HB2.out.b (fit HZ4.out) (Eq.trans (sv4 zero_set) HZ4.out.symm) HZ1.out ?_))
      refine bodyPost_ret (v := .agg z) (results_cell_row rfl _ _ w.heap.size 36 _ _ _ rfl (setRow_heap _ _ _ _ _ _ HB2.out.b) Tryd.underlying36 rfl (fit HZ4.out)) rfl ?_
      refine ⟨zm, by rw [HZE.out], ⟨HZS.out, ?_⟩, only_row HB2.out.o (Nat.le_refl _) _⟩
      rw [HE.out]
      exact ⟨HZ0.out, dead_at (a := a + 1) (by decide) (by have := par_row HB2.out.p (R := w.heap.size) (by have := HG.out; omega) z; simpa using this) (by have := HLE.out; omega)⟩
    · have HE := Lib.hid he
      have HO := Lib.hid ho
      have hm0 : ((m : Int) == 0) = false := by simp; omega
      have d1 : wc.cell? ⟨g, 1, none⟩ = some (.int .i64 ((a : Int) + 1)) := by have := HB1.out.p.c1; simpa using this
      have g1 := HB1.out.p.frozen 1
      have hm9 : (m : Int) ≤ 1000000 := by have := HMN.out; have := HLE.out; omega
      obtain ⟨w3, hw3⟩ : ∃ w3, w3 = wc.setCell ⟨g, 1, none⟩ (.int .i64 ((a : Int) + 1 + (m : Int))) := ⟨_, rfl⟩
      have HB3 : Hid (bS w w3 g s (a + 1 + m) 0 0 w.heap.size 36 (sv zero)) := Lib.hid (by
        rw [hw3]
        have e : ((a : Int) + 1 + (m : Int)) = ((a + 1 + m : Nat) : Int) := by omega
        rw [e]
        exact HB1.out.next (Nat.le_refl _) HG.out (HB1.out.p.goes _) (Only.store (S := (· = g)) (Only.refl (· = g) wc) (p := ⟨g, 1, none⟩) (.inl rfl) _))
      have HBZ3 : Hid (Blk w3 L 36 z) := Lib.hid (by rw [hw3]; exact HBZ.out.only (Only.store (S := (· = g)) (Only.refl (· = g) wc) (p := ⟨g, 1, none⟩) (.inl rfl) _) HGL.out)
      clear he ho HZZ h0
      go_upto_region 7 with fail
      rw [← hw3]
      clear hw3 d1 g1
      go_wp2_with (first | refine wpList_load_row rfl 36 _ rfl L rfl _ _ _ _ HBZ3.out Tryd.underlying36 rfl (fit HZ4.out) ?_ | (refine wpList_store_row rfl 36 _ _ rfl w.heap.size z rfl rfl _ _ HB3.out.b (fit HZ4.out) (Eq.trans (sv4 zero_set) HZ4.out.symm) HZ1.out ?_))
      refine bodyPost_ret (v := .agg z) (results_cell_row rfl _ _ w.heap.size 36 _ _ _ rfl (setRow_heap _ _ _ _ _ _ HB3.out.b) Tryd.underlying36 rfl (fit HZ4.out)) rfl ?_
      refine ⟨zm, by rw [HZE.out], ⟨HZS.out, ?_⟩, only_row HB3.out.o (Nat.le_refl _) _⟩
      rw [HE.out]
      refine ⟨rfl, HO.out, a + 1 + m, by have := HMN.out; have := HLE.out; omega, par_row HB3.out.p (R := w.heap.size) (by have := HG.out; omega) z, ?_⟩
      rw [← rst_drop, HR1.out]
end Go.Proofs.YtabcehifdomolaaDoor.Ex
namespace Go.Proofs.YtabcehifdomolaaDoor.Ech
open Go.RowKit Go.PlainAid Go.Proofs.YtabcehifdomolaaDoor.Vm Go.Proofs.YtabcehifdomolaaDoor.Vo Go.Proofs.YtabcehifdomolaaDoor.Bw Go.Proofs.YtabcehifdomolaaDoor.Na Go.Proofs.YtabcehifdomolaaDoor.Tm Go.Proofs.YtabcehifdomolaaDoor.Ts Go.Proofs.YtabcehifdomolaaDoor.Ta Go.Proofs.YtabcehifdomolaaDoor.Tb Go.Proofs.YtabcehifdomolaaDoor.Tf Go.Proofs.YtabcehifdomolaaDoor.Rm Go.Proofs.YtabcehifdomolaaDoor.Rs Go.Proofs.YtabcehifdomolaaDoor.Ra Go.Proofs.YtabcehifdomolaaDoor.Ep Go.Proofs.YtabcehifdomolaaDoor.Em Go.Proofs.YtabcehifdomolaaDoor.Ek Go.Proofs.YtabcehifdomolaaDoor.Er Go.Proofs.YtabcehifdomolaaDoor.Eo Go.Proofs.YtabcehifdomolaaDoor.Es Go.Proofs.YtabcehifdomolaaDoor.Et Go.Proofs.YtabcehifdomolaaDoor.Ex

/-- A char as the program reads it: at a ] there is none. -/
def chP (r : List Nat) : Out (List Nat × Option Nat) := match r with
  | [] => .err 15 0
  | c :: r => if c = 93 then .err 15 (r.length + 1) else chrP (c :: r)
theorem live_row {w : World} {g : Nat} {s : ByteArray} {r : List Nat} (h : live w g s r) {R : Nat} (hR : g ≠ R) (z : Array Value) : live (w.setRow R z) g s r := by
  obtain ⟨a, ha, p, e⟩ := h
  exact ⟨a, ha, par_row p hR z, e⟩
theorem dead_row {w : World} {g : Nat} {s : ByteArray} {e k : Nat} (h : dead w g s e k) {R : Nat} (hR : g ≠ R) (z : Array Value) : dead (w.setRow R z) g s e k := ⟨h.1, par_row h.2 hR z⟩
theorem chrA_row {s : ByteArray} {g : Nat} {o : Out (List Nat × Option Nat)} {x : List Nat} {w : World} (h : chrA s g o x w) {R : Nat} (hR : g ≠ R) (z : Array Value) : chrA s g o x (w.setRow R z) := by
  refine ⟨h.1, ?_⟩
  have h2 := h.2
  cases o with
  | err e k => exact ⟨h2.1, dead_row h2.2 hR z⟩
  | ok x r => exact ⟨h2.1, h2.2.1, live_row h2.2.2 hR z⟩
set_option maxHeartbeats 4000000 in
set_option maxRecDepth 100000 in
theorem char_any {g : Nat} {s : ByteArray} {a : Nat} (hs : s.size ≤ 1000000) {c : Nat} {r : List Nat} (hr : rst s a = c :: r) {w : World} (H : Hid (par w g s a 0 0)) :
    Calls Tryd.prog 95 #[.pointer (some ⟨g, 0, none⟩)] w fun e w' => ∃ z, e = .returned (.agg (sv z)) ∧ chrA s g (chP (c :: r)) z w' ∧ Only (· = g) w w' := by
  obtain ⟨hal, hc, hbt, hr1⟩ := rst_next hr
  have hlen := rst_len s a
  rw [hr, List.length_cons] at hlen
  have HG := Lib.hid H.out.lt
  obtain ⟨w0, hw0⟩ : ∃ w0, w0 = w.alloc (.cells #[.int .u64 0, .int .u64 0, .int .u64 0, .int .u64 0] 36) := ⟨_, rfl⟩
  have HB0 : Hid (bS w w0 g s a 0 0 w.heap.size 36 (sv zero)) := Lib.hid (by rw [hw0]; exact ⟨H.out.below (below_alloc _ _), Blk.fresh _ _ _, (Only.refl _ _).alloc _⟩)
  have hb := get_bt s
  have hix : (a : Int) < (s.size : Int) := by omega
  have ha0 : (0 : Int) ≤ (a : Int) := by omega
  have ha1 : (a : Int) ≤ 1000000 := by omega
  have HAL : Hid (a + 1 ≤ s.size) := Lib.hid hal
  have HLE : Hid (a + (r.length + 1) = s.size) := Lib.hid (by omega)
  have HR1 := Lib.hid hr1
  have c0 := HB0.out.p.c0
  have c1 := HB0.out.p.c1
  by_cases h92 : c = 92
  · subst h92
    have HE : Hid (∀ u, par u g s a 0 0 → Calls Tryd.prog 77 #[.pointer (some ⟨g, 0, none⟩)] u fun e w' => ∃ z, e = .returned (.agg (sv z)) ∧ chrA s g (escP r) z w' ∧ Only (· = g) u w') := Lib.hid (fun u h => escape_any hs hr (Lib.hid h))
    have HQ : Hid (chP (92 :: r) = escP r) := Lib.hid rfl
    generalize chP (92 :: r) = Q at *
    clear hr hal hlen hr1 hc
    go_enter Tryd.func95, Tryd.ntmps95
    go_upto_region 1 with fail
    rw [← hw0]
    clear hw0
    go_wp2
    go_quiet (fail)
    simp only [Exit.then]
    clear c0 c1
    obtain ⟨w1, hw1⟩ : ∃ w1, w1 = w0.drewN nq := ⟨_, rfl⟩
    have HB1 : Hid (bS w w1 g s a 0 0 w.heap.size 36 (sv zero)) := Lib.hid (by rw [hw1]; exact HB0.out.below (below_draws _ _))
    try rw [← hw1]
    clear hw1
    go_wp2_with (first | (go_at_call 77; refine (HE.out _ HB1.out.p).mono ?_; rintro e w2 ⟨zz, rfl, hA, o⟩; have HAA := Lib.hid hA; have HO2 := Lib.hid o; obtain ⟨z, hz⟩ : ∃ z, z = sv zz := ⟨_, rfl⟩; obtain ⟨hz4, hz1⟩ := set4 hA.1 hz; have HZ4 := Lib.hid hz4; have HZ1 := Lib.hid hz1; have HZE := Lib.hid hz; rw [← hz]; have HBB : Hid (Blk w2 w.heap.size 36 (sv zero)) := Lib.hid (HB1.out.b.only o (by have := HG.out; omega)); clear hA o hz4 hz1 hz) | (refine wpList_store_row rfl 36 _ _ rfl w.heap.size z rfl rfl _ _ HBB.out (fit HZ4.out) (Eq.trans (sv4 zero_set) HZ4.out.symm) HZ1.out ?_))
    refine bodyPost_ret (v := .agg z) (results_cell_row rfl _ _ w.heap.size 36 _ _ _ rfl (setRow_heap _ _ _ _ _ _ HBB.out) Tryd.underlying36 rfl (fit HZ4.out)) rfl ?_
    refine ⟨zz, by rw [HZE.out], ?_, only_row (HB1.out.o.trans HO2.out) (Nat.le_refl _) _⟩
    rw [HQ.out]
    exact chrA_row HAA.out (by have := HG.out; omega) z
  · have n92 : ((c : Int) == 92) = false := by simp; omega
    by_cases h2 : c = 93 ∨ c = 45
    · have HQ : Hid (chP (c :: r) = .err 15 (r.length + 1)) := Lib.hid (by
        unfold chP
        dsimp only
        rcases h2 with rfl | rfl
        · rw [if_pos rfl]
        · rw [if_neg (by decide)]; rfl)
      generalize chP (c :: r) = Q at *
      have hcc : ((c : Int) == 93) = true ∨ (((c : Int) == 93) = false ∧ ((c : Int) == 45) = true) := by
        rcases h2 with rfl | rfl
        · exact .inl rfl
        · exact .inr ⟨rfl, rfl⟩
      have HF : Hid (∀ u, par u g s a 0 0 → Calls Tryd.prog 23 #[.pointer (some ⟨g, 0, none⟩), .int .i64 15, .int .i64 (a : Int)] u fun r w' => r = .returned (.tuple #[]) ∧ par w' g s s.size 15 (a : Int) ∧ Only (· = g) u w') := Lib.hid (fun u h => fail_first 15 (a : Int) h)
      clear hr hal hlen hr1 hc h2 h92
      rcases hcc with h93 | ⟨h93, h45⟩
      all_goals
        go_enter Tryd.func95, Tryd.ntmps95
        go_upto_region 1 with fail
        rw [← hw0]
        clear hw0
        go_wp2
        go_quiet (fail)
        simp only [Exit.then]
        clear c0 c1
        obtain ⟨w1, hw1⟩ : ∃ w1, w1 = w0.drewN nq := ⟨_, rfl⟩
        have HB1 : Hid (bS w w1 g s a 0 0 w.heap.size 36 (sv zero)) := Lib.hid (by rw [hw1]; exact HB0.out.below (below_draws _ _))
        try rw [← hw1]
        clear hw1
        have d1 := HB1.out.p.c1
        go_wp2_with (first | (go_at_call 23; refine (HF.out _ HB1.out.p).mono ?_; rintro e w2 ⟨rfl, p, o⟩; have HB2 := Lib.hid (HB1.out.next (Nat.le_refl _) HG.out p o); clear p o) | (refine wpList_store_row rfl 36 _ _ rfl w.heap.size (sv zero) rfl rfl _ _ HB2.out.b (fit (sv4 zero_set)) rfl (sv_one _) ?_))
        refine bodyPost_ret (v := .agg (sv zero)) (results_cell_row rfl _ _ w.heap.size 36 _ _ _ rfl (setRow_heap _ _ _ _ _ _ HB2.out.b) Tryd.underlying36 rfl (fit (sv4 zero_set))) rfl ?_
        refine ⟨zero, rfl, ⟨zero_set, ?_⟩, only_row HB2.out.o (Nat.le_refl _) _⟩
        rw [HQ.out]
        exact ⟨rfl, dead_at (a := a) (by decide) (par_row HB2.out.p (R := w.heap.size) (by have := HG.out; omega) _) (by have := HLE.out; omega)⟩
    · have n93 : ((c : Int) == 93) = false := by simp; omega
      have n45 : ((c : Int) == 45) = false := by simp; omega
      have HQ : Hid (chP (c :: r) = .ok (one c, some c) r) := Lib.hid (by
        unfold chP chrP
        dsimp only
        rw [if_neg (fun e => h2 (.inl e)), if_neg h92, if_neg (fun e => h2 (.inr e))])
      generalize chP (c :: r) = Q at *
      have HRA : Hid (∀ w, Calls Tryd.prog 78 #[.int .u8 c, .int .u8 c] w fun e w' => e = .returned (.agg (sv (one c))) ∧ Below w.heap.size w w') := Lib.hid (fun w => by have := Range_any hc hc w; rw [frm_one hc] at this; exact this)
      obtain ⟨z, hz⟩ : ∃ z, z = sv (one c) := ⟨_, rfl⟩
      obtain ⟨hz4, hz1⟩ := set4 (one_set c) hz
      have HZ4 := Lib.hid hz4
      have HZ1 := Lib.hid hz1
      have HZE := Lib.hid hz
      have HC := Lib.hid hc
      rw [← hz] at HRA
      clear hz hz4 hz1 hr hal hlen hr1 hc h2 h92
      go_enter Tryd.func95, Tryd.ntmps95
      go_upto_region 1 with fail
      rw [← hw0]
      clear hw0
      go_wp2
      go_quiet (fail)
      simp only [Exit.then]
      clear c0 c1
      obtain ⟨w1, hw1⟩ : ∃ w1, w1 = w0.drewN nq := ⟨_, rfl⟩
      have HB1 : Hid (bS w w1 g s a 0 0 w.heap.size 36 (sv zero)) := Lib.hid (by rw [hw1]; exact HB0.out.below (below_draws _ _))
      try rw [← hw1]
      clear hw1
      have d1 := HB1.out.p.c1
      have g1 := HB1.out.p.frozen 1
      obtain ⟨w2, hw2⟩ : ∃ w2, w2 = w1.setCell ⟨g, 1, none⟩ (.int .i64 ((a : Int) + 1)) := ⟨_, rfl⟩
      have HB2 : Hid (bS w w2 g s (a + 1) 0 0 w.heap.size 36 (sv zero)) := Lib.hid (by
        rw [hw2]
        exact HB1.out.next (Nat.le_refl _) HG.out HB1.out.p.step (Only.store (S := (· = g)) (Only.refl (· = g) w1) (p := ⟨g, 1, none⟩) (.inl rfl) _))
      go_upto_region 10 with fail
      rw [← hw2]
      clear hw2 d1 g1
      go_wp2_with (first | (go_at_call 78; refine (HRA.out _).mono ?_; rintro e w3 ⟨rfl, k3⟩; have HB3 := Lib.hid (HB2.out.below k3); clear k3) | (refine wpList_store_row rfl 36 _ _ rfl w.heap.size z rfl rfl _ _ HB3.out.b (fit HZ4.out) (Eq.trans (sv4 zero_set) HZ4.out.symm) HZ1.out ?_))
      refine bodyPost_ret (v := .agg z) (results_cell_row rfl _ _ w.heap.size 36 _ _ _ rfl (setRow_heap _ _ _ _ _ _ HB3.out.b) Tryd.underlying36 rfl (fit HZ4.out)) rfl ?_
      refine ⟨one c, by rw [HZE.out], ⟨one_set _, ?_⟩, only_row HB3.out.o (Nat.le_refl _) _⟩
      rw [HQ.out]
      exact ⟨rfl, ⟨byt_one c HC.out, HC.out⟩, a + 1, HAL.out, par_row HB3.out.p (R := w.heap.size) (by have := HG.out; omega) z, HR1.out⟩
end Go.Proofs.YtabcehifdomolaaDoor.Ech
