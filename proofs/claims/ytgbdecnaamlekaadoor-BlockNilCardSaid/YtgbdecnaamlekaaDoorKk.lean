/-
  The statements' own read and known(); block.Read of no reader; a head handed over (given, light).
  Conditions: as each theorem says.
-/
import Derived.Test.YtgbdecnaamlekaaDoorKf
import Derived.Test.YtgbdecnaamlekaaDoorPn
namespace Go.Proofs.YtgbdecnaamlekaaDoor.Kk
open Go.RowKit Go.Proofs.YtgbdecnaamlekaaDoor.Vm Go.Proofs.YtgbdecnaamlekaaDoor.Vo Go.Proofs.YtgbdecnaamlekaaDoor.Bw Go.Proofs.YtgbdecnaamlekaaDoor.Bm Go.Proofs.YtgbdecnaamlekaaDoor.Br Go.Proofs.YtgbdecnaamlekaaDoor.Bs Go.Proofs.YtgbdecnaamlekaaDoor.Na Go.Proofs.YtgbdecnaamlekaaDoor.Nm Go.Proofs.YtgbdecnaamlekaaDoor.Pn Go.Proofs.YtgbdecnaamlekaaDoor.Ko Go.Proofs.YtgbdecnaamlekaaDoor.Ka Go.Proofs.YtgbdecnaamlekaaDoor.Kb Go.Proofs.YtgbdecnaamlekaaDoor.Km Go.Proofs.YtgbdecnaamlekaaDoor.Ks Go.Proofs.YtgbdecnaamlekaaDoor.Kc Go.Proofs.YtgbdecnaamlekaaDoor.Kd Go.Proofs.YtgbdecnaamlekaaDoor.Ke Go.Proofs.YtgbdecnaamlekaaDoor.Kf

/-- Heads that are not dynamic. -/
theorem readHead_plain {s : ByteArray} {a : Nat} (hs : s.size ≤ 281474976710656) (ha : a ≤ 8 * s.size) (hk : 8 * s.size - a < 3 ∨ peekN (num s.data.toList) (a + 1) 2 ≠ 2) (u : World) (c : Nat) (h : rd u c s a) :
    Calls Tryd.prog 34 #[.pointer (some ⟨c, 0, none⟩)] u (rdH c s a u) := by
  by_cases hl : 8 * s.size - a < 3
  · exact head_short' h hs ha hl
  · have hp := peekN_lt (num s.data.toList) (a + 1) 2
    have hk' : peekN (num s.data.toList) (a + 1) 2 ≠ 2 := hk.resolve_left hl
    rcases (show peekN (num s.data.toList) (a + 1) 2 = 0 ∨ peekN (num s.data.toList) (a + 1) 2 = 1 ∨ peekN (num s.data.toList) (a + 1) 2 = 3 by omega) with k | k | k
    · exact head_sto' h hs ha hl k
    · exact head_fix' h hs ha hl k
    · exact head_no' h hs ha hl k

/-- What the statements' read answers. -/
def gets (s : ByteArray) (w : World) (e : Ending) (w' : World) : Prop :=
  ∃ b k z A1 n1 c1 A2 n2 c2, e = .returned (.tuple #[hv b k z (.slice A1 n1 c1) (.slice A2 n2 c2), .int .i64 (headM (num s.data.toList) (8 * s.size) 0).1]) ∧
    isH w' (hv b k z (.slice A1 n1 c1) (.slice A2 n2 c2)) (headM (num s.data.toList) (8 * s.size) 0).2.1 ∧ Below w.heap.size w w'
set_option maxRecDepth 100000 in
theorem read_any {s : ByteArray} (hs : s.size ≤ 281474976710656) (HH : Hid (∀ u c, rd u c s 0 → Calls Tryd.prog 34 #[.pointer (some ⟨c, 0, none⟩)] u (rdH c s 0 u))) (w : World) :
    Calls Tryd.prog 31 #[.string s] w (gets s w) := by
  obtain ⟨w1, hw1⟩ : ∃ w1, w1 = w.alloc (.cells z5 33) := ⟨_, rfl⟩
  have HB1 : Hid (Below w.heap.size w w1) := Lib.hid (by rw [hw1]; exact below_alloc _ _)
  have HR1 : Hid (Blk w1 w.heap.size 33 z5) := Lib.hid (by rw [hw1]; exact Blk.fresh _ _ _)
  go_enter Tryd.func31, Tryd.ntmps31
  go_wp2_with fail
  rw [← hw1]
  clear hw1
  refine (New_ok s 0 w1 hs (by omega)).mono ?_
  rintro e w2 ⟨g, rfl, r2, hg, b2⟩
  have R2 := Lib.hid r2
  have B2 := Lib.hid b2
  have HG := Lib.hid hg
  clear r2 b2 hg
  go_wp2_with fail
  refine (Read_any R2.out hs HH).mono ?_
  rintro e w3 ⟨b, k, z, A1, n1, c1, A2, n2, c2, rfl, i3, r3, o3⟩
  have I3 := Lib.hid i3
  have O3 := Lib.hid o3
  clear i3 r3 o3
  have hl1 := HR1.out.lt
  have HR3 : Hid (Blk w3 w.heap.size 33 z5) := Lib.hid ((HR1.out.below B2.out).only O3.out (fun e => by have : w.heap.size = g := e; have := HG.out; omega))
  obtain ⟨er, her⟩ : ∃ er, er = (headM (num s.data.toList) (8 * s.size) 0).1 := ⟨_, rfl⟩
  have HER := Lib.hid her
  rw [← her]
  clear her
  go_wp2_with (refine wpList_store_row rfl 33 _ _ rfl w.heap.size #[.bool b, .int .i64 k, .int .i64 z, .slice A1 n1 c1, .slice A2 n2 c2] rfl rfl _ _ HR3.out sizeH rfl (one5 _ _ _ _ _ _ _ _ _) ?_)
  refine bodyPost_ret (v := .tuple #[.agg #[.bool b, .int .i64 k, .int .i64 z, .slice A1 n1 c1, .slice A2 n2 c2], .int .i64 er]) (results_cell2 rfl _ _ w.heap.size 33 _ _ _ rfl rfl (setRow_heap _ _ _ _ _ _ HR3.out) Tryd.underlying33 rfl sizeH) rfl ?_
  have OR : Only (fun k => k = w.heap.size) w3 (w3.setRow w.heap.size #[.bool b, .int .i64 k, .int .i64 z, .slice A1 n1 c1, .slice A2 n2 c2]) := only_row (S := fun k => k = w.heap.size) (Only.refl _ _) rfl _
  have hB := grows HB1.out B2.out
  refine ⟨b, k, z, A1, n1, c1, A2, n2, c2, by rw [HER.out], I3.out.off OR (fun i hi => ?_), ?_⟩
  · obtain rfl : i = w.heap.size := hi
    exact ⟨_, _, HR3.out, by decide⟩
  · exact Below_setRow (O3.out.below hB hB.size (fun i hi => by have : i = g := hi; have := HG.out; have := HB1.out.size; omega)) (Nat.le_refl _) _

theorem read1 (w : World) : Calls Tryd.prog 31 #[.string ⟨#[3]⟩] w fun e w' => ∃ A1 c1 A2 c2, e = .returned (.tuple #[hv true 1 0 (.slice A1 288 c1) (.slice A2 32 c2), .int .i64 0]) ∧ Below w.heap.size w w' := by
  have hk : peekN (num (⟨#[3]⟩ : ByteArray).data.toList) (0 + 1) 2 = 1 := by decide
  have e := head_fix (N := num (⟨#[3]⟩ : ByteArray).data.toList) (M := 8 * (⟨#[3]⟩ : ByteArray).size) (a := 0) (by decide) hk
  refine (read_any (s := ⟨#[3]⟩) (by decide) (Lib.hid (readHead_plain (by decide) (by decide) (.inr (by rw [hk]; decide)))) w).mono ?_
  rintro _ w' ⟨b, k, z, A1, n1, c1, A2, n2, c2, rfl, i, hb⟩
  rw [e] at i ⊢
  obtain ⟨v1, v2, ev, l1, l2⟩ := i
  injection ev with ev
  injection ev with ev
  simp only [List.cons.injEq, Value.bool.injEq, Value.int.injEq, and_true, true_and] at ev
  obtain ⟨e1, e2, e3, e4, e5⟩ := ev
  subst e4 e5 e1 e2 e3
  obtain ⟨m1, _⟩ := l1.row
  obtain ⟨m2, _⟩ := l2.row
  rw [fixL_length] at m1
  rw [fixD_length] at m2
  subst m1 m2
  exact ⟨A1, c1, A2, c2, rfl, hb⟩
theorem read2 (w : World) : Calls Tryd.prog 31 #[.string ⟨#[1, 5, 0, 250, 255]⟩] w fun e w' => ∃ b A1 n1 c1 A2 n2 c2, e = .returned (.tuple #[hv b 0 5 (.slice A1 n1 c1) (.slice A2 n2 c2), .int .i64 0]) ∧ Below w.heap.size w w' := by
  have hk : peekN (num (⟨#[1, 5, 0, 250, 255]⟩ : ByteArray).data.toList) (0 + 1) 2 = 0 := by decide
  have hst : stoM (num (⟨#[1, 5, 0, 250, 255]⟩ : ByteArray).data.toList) (8 * (⟨#[1, 5, 0, 250, 255]⟩ : ByteArray).size) (0 + 3) = (0, 5, 40) := by decide +kernel
  have e := head_sto (N := num (⟨#[1, 5, 0, 250, 255]⟩ : ByteArray).data.toList) (M := 8 * (⟨#[1, 5, 0, 250, 255]⟩ : ByteArray).size) (a := 0) (by decide) hk (by rw [hst])
  rw [hst] at e
  refine (read_any (s := ⟨#[1, 5, 0, 250, 255]⟩) (by decide) (Lib.hid (readHead_plain (by decide) (by decide) (.inr (by rw [hk]; decide)))) w).mono ?_
  rintro _ w' ⟨b, k, z, A1, n1, c1, A2, n2, c2, rfl, i, hb⟩
  rw [e] at i ⊢
  obtain ⟨v1, v2, ev, l1, l2⟩ := i
  injection ev with ev
  injection ev with ev
  simp only [List.cons.injEq, Value.bool.injEq, Value.int.injEq, and_true, true_and] at ev
  obtain ⟨e1, e2, e3, e4, e5⟩ := ev
  subst e4 e5 e1 e2 e3
  exact ⟨_, A1, n1, c1, A2, n2, c2, rfl, hb⟩
def errs (x : Int) (w : World) (e : Ending) (w' : World) : Prop := ∃ b k z A1 n1 c1 A2 n2 c2, e = .returned (.tuple #[hv b k z (.slice A1 n1 c1) (.slice A2 n2 c2), .int .i64 x]) ∧ Below w.heap.size w w'
theorem read_err {s : ByteArray} {x : Int} (hs : s.size ≤ 281474976710656) (hk : 8 * s.size - 0 < 3 ∨ peekN (num s.data.toList) (0 + 1) 2 ≠ 2) (hx : (headM (num s.data.toList) (8 * s.size) 0).1 = x) (w : World) :
    Calls Tryd.prog 31 #[.string s] w (errs x w) := by
  refine (read_any hs (Lib.hid (readHead_plain hs (by omega) hk)) w).mono ?_
  rintro _ w' ⟨b, k, z, A1, n1, c1, A2, n2, c2, rfl, i, hb⟩
  exact ⟨b, k, z, A1, n1, c1, A2, n2, c2, by rw [hx], hb⟩
theorem read3 (w : World) : Calls Tryd.prog 31 #[.string ⟨#[1, 5, 0, 250, 254]⟩] w (errs 6 w) := read_err (s := ⟨#[1, 5, 0, 250, 254]⟩) (x := 6) (by decide) (.inr (by decide)) (by
  have hst : stoM (num (⟨#[1, 5, 0, 250, 254]⟩ : ByteArray).data.toList) (8 * (⟨#[1, 5, 0, 250, 254]⟩ : ByteArray).size) (0 + 3) = (6, 0, 0) := by decide +kernel
  rw [head_sto_no (by decide) (by decide) (by rw [hst]; decide), hst]) w
theorem read4 (w : World) : Calls Tryd.prog 31 #[.string ⟨#[7]⟩] w (errs 11 w) := read_err (s := ⟨#[7]⟩) (x := 11) (by decide) (.inr (by decide)) (by rw [head_no (by decide) (by decide)]) w
theorem read5 (w : World) : Calls Tryd.prog 31 #[.string ⟨#[]⟩] w (errs 2 w) := read_err (s := ⟨#[]⟩) (x := 2) (by decide) (.inl (by decide)) (by rw [head_short (by decide)]) w

set_option maxHeartbeats 1000000 in
set_option maxRecDepth 100000 in
theorem known_any (w : World) : Calls Tryd.prog 8 #[] w fun e w' => e = .returned (.bool true) ∧ Below w.heap.size w w' := by
  go_enter Tryd.func8, Tryd.ntmps8
  go_wp2_with fail
  refine (read1 w).mono ?_
  rintro e w1 ⟨A1, c1, A2, c2, rfl, b1⟩
  have B1 := Lib.hid b1
  clear b1
  obtain ⟨u1, hu1⟩ : ∃ u, u = w1.alloc (.cells #[.bool true, .int .i64 1, .int .i64 0, .slice A1 288 c1, .slice A2 32 c2] 33) := ⟨_, rfl⟩
  have K1 : Hid (Blk u1 w1.heap.size 33 #[.bool true, .int .i64 1, .int .i64 0, .slice A1 288 c1, .slice A2 32 c2]) := Lib.hid (by rw [hu1]; exact Blk.fresh _ _ _)
  have U1 : Hid (Below w1.heap.size w1 u1) := Lib.hid (by rw [hu1]; exact below_alloc _ _)
  go_wp2_with fail
  rw [← hu1]
  clear hu1
  refine (read2 u1).mono ?_
  rintro e w2 ⟨b', A3, n3, c3, A4, n4, c4, rfl, b2⟩
  have B2 := Lib.hid b2
  clear b2
  obtain ⟨u2, hu2⟩ : ∃ u, u = w2.alloc (.cells #[.bool b', .int .i64 0, .int .i64 5, .slice A3 n3 c3, .slice A4 n4 c4] 33) := ⟨_, rfl⟩
  have K2 : Hid (Blk u2 w2.heap.size 33 #[.bool b', .int .i64 0, .int .i64 5, .slice A3 n3 c3, .slice A4 n4 c4]) := Lib.hid (by rw [hu2]; exact Blk.fresh _ _ _)
  have U2 : Hid (Below w2.heap.size w2 u2) := Lib.hid (by rw [hu2]; exact below_alloc _ _)
  go_wp2_with fail
  rw [← hu2]
  clear hu2
  refine (read3 u2).mono ?_
  rintro e w3 ⟨b3', k3, z3, A5, n5, c5, A6, n6, c6, rfl, b3⟩
  have B3 := Lib.hid b3
  clear b3
  obtain ⟨u3, hu3⟩ : ∃ u, u = w3.alloc (.cells #[.bool b3', .int .i64 k3, .int .i64 z3, .slice A5 n5 c5, .slice A6 n6 c6] 33) := ⟨_, rfl⟩
  have U3 : Hid (Below w3.heap.size w3 u3) := Lib.hid (by rw [hu3]; exact below_alloc _ _)
  go_wp2_with fail
  rw [← hu3]
  clear hu3
  refine (read4 u3).mono ?_
  rintro e w4 ⟨b4', k4, z4, A7, n7, c7, A8, n8, c8, rfl, b4⟩
  have B4 := Lib.hid b4
  clear b4
  obtain ⟨u4, hu4⟩ : ∃ u, u = w4.alloc (.cells #[.bool b4', .int .i64 k4, .int .i64 z4, .slice A7 n7 c7, .slice A8 n8 c8] 33) := ⟨_, rfl⟩
  have U4 : Hid (Below w4.heap.size w4 u4) := Lib.hid (by rw [hu4]; exact below_alloc _ _)
  go_wp2_with fail
  rw [← hu4]
  clear hu4
  refine (read5 u4).mono ?_
  rintro e w5 ⟨b5', k5, z5', A9, n9, c9, A10, n10, c10, rfl, b5⟩
  have B5 := Lib.hid b5
  clear b5
  obtain ⟨u5, hu5⟩ : ∃ u, u = w5.alloc (.cells #[.bool b5', .int .i64 k5, .int .i64 z5', .slice A9 n9 c9, .slice A10 n10 c10] 33) := ⟨_, rfl⟩
  have U5 : Hid (Below w5.heap.size w5 u5) := Lib.hid (by rw [hu5]; exact below_alloc _ _)
  have k1 := ((((((((K1.out.below B2.out).below U2.out).below B3.out).below U3.out).below B4.out).below U4.out).below B5.out).below U5.out)
  have k2 := ((((((K2.out.below B3.out).below U3.out).below B4.out).below U4.out).below B5.out).below U5.out)
  have HB : Hid (Below w.heap.size w u5) := Lib.hid (grows (grows (grows (grows (grows (grows (grows (grows (grows B1.out U1.out) B2.out) U2.out) B3.out) U3.out) B4.out) U4.out) B5.out) U5.out)
  rw [hu5] at k1 k2 HB
  have d0 := k1.cell 0
  have d1 := k1.cell 1
  have d3 := k1.cell 3
  have d4 := k1.cell 4
  have e1 := k2.cell 1
  have e2 := k2.cell 2
  clear k1 k2 hu5
  go_wp2_with fail
  refine (FixedLits_any _).mono ?_
  rintro e w6 ⟨v6, rfl, k6, b6⟩
  have B6 := Lib.hid b6
  obtain ⟨A, c, hv6⟩ := k6.form
  rw [ofN_length, fixL_length] at hv6
  subst hv6
  clear k6 b6
  go_wp2
  go_ret
  exact ⟨rfl, grows HB.out B6.out⟩

theorem Copy_none {p : Option Addr} {w : World} (h : noR p w) : Calls Tryd.prog 33 #[.pointer p] w fun e w' => e = .returned (.pointer none) ∧ w = w' := by
  go_enter Tryd.func33, Tryd.ntmps33
  go_wp2_with (go_at_call 38; refine (h).mono ?_; rintro e w' ⟨rfl, rfl⟩)
  go_ret
  exact ⟨rfl, rfl⟩
set_option maxRecDepth 100000 in
theorem Read_none {p : Option Addr} {w : World} (h : ∀ o, noR p (w.alloc o)) : Calls Tryd.prog 12 #[.pointer p] w fun e w' => e = .returned (.tuple #[.agg z5, .int .i64 25]) ∧ Below w.heap.size w w' := by
  obtain ⟨w1, hw1⟩ : ∃ w1, w1 = w.alloc (.cells z5 33) := ⟨_, rfl⟩
  have HB1 : Hid (Below w.heap.size w w1) := Lib.hid (by rw [hw1]; exact below_alloc _ _)
  have HR1 : Hid (Blk w1 w.heap.size 33 z5) := Lib.hid (by rw [hw1]; exact Blk.fresh _ _ _)
  have HN : Hid (noR p w1) := Lib.hid (by rw [hw1]; exact h _)
  go_enter Tryd.func12, Tryd.ntmps12
  go_wp2_with fail
  rw [← hw1]
  clear hw1 h
  refine (Copy_none HN.out).mono ?_
  rintro e w' ⟨rfl, hw⟩
  rw [← hw]
  clear hw
  go_wp2_with (refine wpList_store_row rfl 33 _ _ rfl w.heap.size z5 rfl rfl _ _ HR1.out sizeH rfl (one5 _ _ _ _ _ _ _ _ _) ?_)
  refine bodyPost_ret (v := .tuple #[.agg z5, .int .i64 25]) (results_cell2 rfl _ _ w.heap.size 33 z5 _ _ rfl rfl (setRow_heap _ _ _ _ _ _ HR1.out) Tryd.underlying33 rfl sizeH) rfl ?_
  exact ⟨rfl, Below_setRow HB1.out (Nat.le_refl _) _⟩
theorem Write_none {p : Option Addr} {w : World} (b : Bool) (k z : Int) (A1 : Option Addr) (n1 c1 : Nat) (A2 : Option Addr) (n2 c2 : Nat) (h : ∀ o, Go.Proofs.YtgbdecnaamlekaaDoor.Bn.none' p (w.alloc o)) :
    Calls Tryd.prog 21 #[.pointer p, hv b k z (.slice A1 n1 c1) (.slice A2 n2 c2)] w fun e w' => e = .returned (.int .i64 25) ∧ Below w.heap.size w w' := by
  go_enter Tryd.func21, Tryd.ntmps21
  go_wp2_with fail
  refine (Go.Proofs.YtgbdecnaamlekaaDoor.Bn.wPut_none 0 p _ (h _)).mono ?_
  rintro e w' ⟨rfl, hw⟩
  rw [← hw]
  clear hw
  go_wp2
  go_ret
  exact ⟨rfl, below_alloc _ _⟩
set_option maxRecDepth 100000 in
theorem given_any (b : Bool) (k z : Int) (A1 : Option Addr) (n1 c1 : Nat) (A2 : Option Addr) (n2 c2 : Nat) (w : World) :
    Calls Tryd.prog 22 #[.agg #[.bool b, .int .i64 k, .int .i64 z, .slice A1 n1 c1, .slice A2 n2 c2]] w fun e w' => e = .returned (hv b k z (.slice A1 n1 c1) (.slice A2 n2 c2)) ∧ Below w.heap.size w w' := by
  go_enter Tryd.func22, Tryd.ntmps22
  go_wp2
  have hk := Blk.fresh (w.alloc (.cells #[.bool b, .int .i64 k, .int .i64 z, .slice A1 n1 c1, .slice A2 n2 c2] 36)) 33 #[.bool b, .int .i64 k, .int .i64 z, .slice A1 n1 c1, .slice A2 n2 c2]
  rw [size_alloc] at hk
  refine bodyPost_ret (v := .agg #[.bool b, .int .i64 k, .int .i64 z, .slice A1 n1 c1, .slice A2 n2 c2]) (results_cell_row rfl _ _ (w.heap.size + 1) 33 _ _ _ rfl hk Tryd.underlying33 rfl sizeH) rfl ?_
  exact ⟨rfl, grows (below_alloc _ _) (below_alloc _ _)⟩
theorem light_any (b : Bool) (k z : Int) (A1 : Option Addr) (n1 c1 : Nat) (A2 : Option Addr) (n2 c2 : Nat) (w : World) :
    Calls Tryd.prog 17 #[.agg #[.bool b, .int .i64 k, .int .i64 z, .slice A1 n1 c1, .slice A2 n2 c2]] w fun e w' => e = .returned (.bool (decide (n1 ≤ 400 ∧ n2 ≤ 400))) ∧ Below w.heap.size w w' := by
  by_cases h1 : n1 ≤ 400
  · have g1 : (n1 : Int) ≤ 400 := by omega
    go_enter Tryd.func17, Tryd.ntmps17
    go_wp2
    go_ret
    exact ⟨ret_bool (by simp [h1]; omega), below_alloc _ _⟩
  · have g1 : ¬ (n1 : Int) ≤ 400 := by omega
    go_enter Tryd.func17, Tryd.ntmps17
    go_wp2
    go_ret
    exact ⟨ret_bool (by simp), below_alloc _ _⟩
end Go.Proofs.YtgbdecnaamlekaaDoor.Kk
