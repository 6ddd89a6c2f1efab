/-
  The calls of layer 17's known(), each as it answers there.
  Layer 17's known().
  Layer 17: a row of numbers that is the list of what holds (ansU): what Closure, Step and Run answer, the program's and the reference's; two such answers are equal.
  Layer 17: what the reference's Matching tells is the list of the rules whose trees match; what a made automaton's Run tells is the same list; of one tree alone.
  Conditions: as each theorem says.
-/
import Derived.Test.YthjelilmlbbalaaPax
import Derived.Test.YthjelilmlbbalaaPan
import Derived.Test.YthjelilmlbbalaaPaz
import Derived.StillTailTactics
import Derived.Test.YthjelilmlbbalaaPao
import Derived.Test.YthjelilmlbbalaaPbb
namespace Go.Proofs.Ythjelilmlbbalaa.Om
open Go.RowKit Go.Proofs.Ythjelilmlbbalaa.Vm Go.Proofs.Ythjelilmlbbalaa.Vo Go.Proofs.Ythjelilmlbbalaa.Bw Go.Proofs.Ythjelilmlbbalaa.Na Go.Proofs.Ythjelilmlbbalaa.Ko Go.Proofs.Ythjelilmlbbalaa.Tm Go.Proofs.Ythjelilmlbbalaa.Rs Go.Proofs.Ythjelilmlbbalaa.Ta Go.Proofs.Ythjelilmlbbalaa.Tb Go.Proofs.Ythjelilmlbbalaa.Tf Go.Proofs.Ythjelilmlbbalaa.Rm Go.Proofs.Ythjelilmlbbalaa.Rv Go.Proofs.Ythjelilmlbbalaa.Ra Go.Proofs.Ythjelilmlbbalaa.Rf Go.Proofs.Ythjelilmlbbalaa.Rg Go.Proofs.Ythjelilmlbbalaa.Rn Go.Proofs.Ythjelilmlbbalaa.Ed Go.Proofs.Ythjelilmlbbalaa.An Go.Proofs.Ythjelilmlbbalaa.Aa Go.Proofs.Ythjelilmlbbalaa.Ab Go.Proofs.Ythjelilmlbbalaa.Ac Go.Proofs.Ythjelilmlbbalaa.Ae Go.Proofs.Ythjelilmlbbalaa.Ap Go.Proofs.Ythjelilmlbbalaa.Ax Go.Proofs.Ythjelilmlbbalaa.Ay Go.Proofs.Ythjelilmlbbalaa.Ak Go.Proofs.Ythjelilmlbbalaa.Aw Go.Proofs.Ythjelilmlbbalaa.Da Go.Proofs.Ythjelilmlbbalaa.Db Go.Proofs.Ythjelilmlbbalaa.Dm Go.Proofs.Ythjelilmlbbalaa.Dn Go.Proofs.Ythjelilmlbbalaa.De Go.Proofs.Ythjelilmlbbalaa.Dc Go.Proofs.Ythjelilmlbbalaa.Df Go.Proofs.Ythjelilmlbbalaa.Dk Go.Proofs.Ythjelilmlbbalaa.Du Go.Proofs.Ythjelilmlbbalaa.Dv Go.Proofs.Ythjelilmlbbalaa.Dw Go.Proofs.Ythjelilmlbbalaa.Dx Go.Proofs.Ythjelilmlbbalaa.Oa Go.Proofs.Ythjelilmlbbalaa.Of Go.Proofs.Ythjelilmlbbalaa.Ok Go.Proofs.Ythjelilmlbbalaa.Ol

theorem nv_au (A1 A2 : Option Addr) (c1 c2 : Nat) : nv A1 A2 c1 c2 au = .agg #[.slice A1 9 c1, .int .i64 0, .slice A2 9 c2] := by
  unfold nv
  rw [au_len.1, au_len.2]
  rfl
theorem au_rows : ∀ l ∈ au.E, l.length ≤ 1000000 := au_row mkAB
theorem make_ab {w : World} {A : Option Addr} {cap : Nat} (H : ndr w A [lA, lB]) : Calls Try.prog 9 #[.slice A 2 cap] w fun e w' => ∃ A1 A2 c1 c2, e = .returned (.tuple #[.agg #[.slice A1 9 c1, .int .i64 0, .slice A2 9 c2], .int .i64 0]) ∧ nfa w' A1 A2 au ∧ Below w.heap.size w w' := by
  have k := Make_any (cap := cap) (L := [lA, lB]) (by decide) (fun l hl => by
    rcases List.mem_cons.1 hl with rfl | hl
    · decide
    · rcases List.mem_cons.1 hl with rfl | hl
      · decide
      · cases hl) (Lib.hid H)
  have hm : makesQ [lA, lB] = (9, 0) := makesAB (fun l hl => by
    obtain ⟨i, hi⟩ := List.mem_iff_getElem?.1 hl
    obtain ⟨b, off, _, _, A', c', _, _, hn⟩ := H i l hi
    refine (check_isT hn).2 ?_
    rcases List.mem_cons.1 hl with rfl | hl
    · exact isA
    · rcases List.mem_cons.1 hl with rfl | hl
      · exact isB
      · cases hl)
  refine k.mono ?_
  rintro e w' ⟨b, _, h2⟩
  obtain ⟨A1, A2, c1, c2, rfl, hn⟩ := h2 (by rw [hm])
  refine ⟨A1, A2, c1, c2, ?_, hn, b⟩
  rw [← nv_au]
  rfl
theorem make_none (w : World) : Calls Try.prog 9 #[.slice none 0 0] w fun e w' => e = .returned (.tuple #[.agg #[.slice none 0 0, .int .i64 0, .slice none 0 0], .int .i64 17]) ∧ Below w.heap.size w w' := by
  have k := Make_any (A := none) (cap := 0) (L := []) (by decide) (fun l hl => by cases hl) (w := w) (Lib.hid (fun i l hi => by simp at hi))
  refine k.mono ?_
  rintro e w' ⟨b, h1, _⟩
  have h := h1 (by rw [makes_nil]; decide)
  rw [makes_nil] at h
  exact ⟨h, b⟩
theorem run_k {s : ByteArray} (C : List Int) (hC : ∀ C', isL C' (rul au (runs au.E au.first.toNat (nb s.data.toList))) → C' = C) (hs : s.size ≤ 1000000) {A1 A2 : Option Addr} {c1 c2 : Nat} {w : World} (H : nfa w A1 A2 au) :
    Calls Try.prog 16 #[.agg #[.slice A1 9 c1, .int .i64 0, .slice A2 9 c2], .string s] w fun e w' => ∃ A c, e = .returned (.slice A C.length c) ∧ row w' A C.length (at0 C) ∧ Below w.heap.size w w' := by
  have k := Run_any (A := au) (c1 := c1) (c2 := c2) (by rw [au_len.1]; decide) (by rw [au_len.2]; decide) au_rows hs (Lib.hid H)
  rw [nv_au] at k
  refine k.mono ?_
  rintro e w' ⟨v, C', rfl, hi, h1, _, b⟩
  obtain rfl := hC _ (h1 au_ok)
  obtain ⟨A, c, rfl⟩ := hi.form
  exact ⟨A, c, rfl, hi.row, b⟩
theorem right_k {A1 A2 : Option Addr} {c1 c2 : Nat} {w : World} (H : nfa w A1 A2 au) :
    Calls Try.prog 14 #[.agg #[.slice A1 9 c1, .int .i64 0, .slice A2 9 c2]] w fun e w' => e = .returned (.bool true) ∧ Below w.heap.size w w' := by
  have k := Right_any (A := au) (c1 := c1) (c2 := c2) (by rw [au_len.1]; decide) (by rw [au_len.2]; decide) au_rows (Lib.hid H)
  have e := nv_au A1 A2 c1 c2
  unfold nv at e
  rw [e] at k
  refine k.mono ?_
  rintro e w' ⟨b, rfl, hb, k⟩
  rw [hb.2 au_ok]
  exact ⟨rfl, k⟩
theorem size_k {A : Option Addr} {cap : Nat} (hc : 3 ≤ cap) {w : World} (H : nds w A lA) : Calls Try.prog 11 #[.slice A 3 cap] w fun e w' => e = .returned (.int .i64 6) ∧ Below w.heap.size w w' := by
  have k := Size_any (cap := cap) (l := lA) (by decide) hc (Lib.hid H)
  rw [szA] at k
  exact k
theorem row_lit1 (u : World) : row (u.alloc (.cells #[.int .i64 0] 3)) (some ⟨u.heap.size, 0, none⟩) 1 (at0 [0]) := fun i hi => by
  match i, hi with
  | 0, _ => exact ⟨_, 0, rfl, by rw [size_alloc]; omega, (Blk.fresh u _ _).cell 0⟩
theorem row_lit2 (u : World) : row (u.alloc (.cells #[.int .i64 0, .int .i64 1] 3)) (some ⟨u.heap.size, 0, none⟩) 2 (at0 [0, 1]) := fun i hi => by
  match i, hi with
  | 0, _ => exact ⟨_, 0, rfl, by rw [size_alloc]; omega, (Blk.fresh u _ _).cell 0⟩
  | 1, _ => exact ⟨_, 0, rfl, by rw [size_alloc]; omega, (Blk.fresh u _ _).cell 1⟩
theorem same_1 {A : Option Addr} {c : Nat} {u : World} (H : row u A 1 (at0 [0])) : Calls Try.prog 15 #[.slice A 1 c, .slice (some ⟨u.heap.size, 0, none⟩) 1 1] (u.alloc (.cells #[.int .i64 0] 3)) fun e w' => e = .returned (.bool true) ∧ Below u.heap.size u w' :=
  (Ints_same (by decide) (Lib.hid (H.below (below_alloc _ _))) (Lib.hid (row_lit1 u))).mono fun e w' ⟨h, b⟩ => ⟨h, grows (below_alloc _ _) b⟩
theorem same_2 {A : Option Addr} {c : Nat} {u : World} (H : row u A 2 (at0 [0, 1])) : Calls Try.prog 15 #[.slice A 2 c, .slice (some ⟨u.heap.size, 0, none⟩) 2 2] (u.alloc (.cells #[.int .i64 0, .int .i64 1] 3)) fun e w' => e = .returned (.bool true) ∧ Below u.heap.size u w' :=
  (Ints_same (by decide) (Lib.hid (H.below (below_alloc _ _))) (Lib.hid (row_lit2 u))).mono fun e w' ⟨h, b⟩ => ⟨h, grows (below_alloc _ _) b⟩
end Go.Proofs.Ythjelilmlbbalaa.Om
namespace Go.Proofs.Ythjelilmlbbalaa.On
open Go.RowKit Go.PlainAid Go.Proofs.Ythjelilmlbbalaa.Vm Go.Proofs.Ythjelilmlbbalaa.Vo Go.Proofs.Ythjelilmlbbalaa.Bw Go.Proofs.Ythjelilmlbbalaa.Na Go.Proofs.Ythjelilmlbbalaa.Ko Go.Proofs.Ythjelilmlbbalaa.Tm Go.Proofs.Ythjelilmlbbalaa.Rs Go.Proofs.Ythjelilmlbbalaa.Ta Go.Proofs.Ythjelilmlbbalaa.Tb Go.Proofs.Ythjelilmlbbalaa.Tf Go.Proofs.Ythjelilmlbbalaa.Rm Go.Proofs.Ythjelilmlbbalaa.Rv Go.Proofs.Ythjelilmlbbalaa.Ra Go.Proofs.Ythjelilmlbbalaa.Rf Go.Proofs.Ythjelilmlbbalaa.Rg Go.Proofs.Ythjelilmlbbalaa.Rn Go.Proofs.Ythjelilmlbbalaa.Ed Go.Proofs.Ythjelilmlbbalaa.An Go.Proofs.Ythjelilmlbbalaa.Aa Go.Proofs.Ythjelilmlbbalaa.Ab Go.Proofs.Ythjelilmlbbalaa.Ac Go.Proofs.Ythjelilmlbbalaa.Ae Go.Proofs.Ythjelilmlbbalaa.Ay Go.Proofs.Ythjelilmlbbalaa.Aq Go.Proofs.Ythjelilmlbbalaa.Dx Go.Proofs.Ythjelilmlbbalaa.Oi Go.Proofs.Ythjelilmlbbalaa.Ok Go.Proofs.Ythjelilmlbbalaa.Ol Go.Proofs.Ythjelilmlbbalaa.Om

theorem sT.litA {w : World} {v : Value} (h : sT w v lA) : ∃ A c, v = .slice A 3 c ∧ 3 ≤ c ∧ nds w A lA := by
  obtain ⟨A, c, h1, h2, h3, _⟩ := h
  exact ⟨A, c, h1, h2, h3⟩
theorem sT.litB {w : World} {v : Value} (h : sT w v lB) : ∃ A c, v = .slice A 1 c ∧ 1 ≤ c ∧ nds w A lB := by
  obtain ⟨A, c, h1, h2, h3, _⟩ := h
  exact ⟨A, c, h1, h2, h3⟩
/-- Two trees in a row of the call's own. -/
theorem ndr_two {w : World} {A1 A2 : Option Addr} {c1 c2 : Nat} (h1 : nds w A1 lA) (h2 : nds w A2 lB) (k1 : 3 ≤ c1) (k2 : 1 ≤ c2) : ndr (w.alloc (.cells #[.slice A1 3 c1, .slice A2 1 c2] 35)) (some ⟨w.heap.size, 0, none⟩) [lA, lB] := fun i l hi => by
  have hb := Blk.fresh w 35 #[.slice A1 3 c1, .slice A2 1 c2]
  match i, hi with
  | 0, hi => obtain rfl := Option.some.inj hi
             exact ⟨_, 0, rfl, by rw [size_alloc]; omega, A1, c1, hb.cell 0, k1, h1.below (below_alloc _ _)⟩
  | 1, hi => obtain rfl := Option.some.inj hi
             exact ⟨_, 0, rfl, by rw [size_alloc]; omega, A2, c2, hb.cell 1, k2, h2.below (below_alloc _ _)⟩
set_option maxHeartbeats 2000000 in
set_option maxRecDepth 100000 in
theorem known_any (w : World) : Calls Try.prog 8 #[] w fun e w' => e = .returned (.bool true) ∧ Below w.heap.size w w' := by
  have HPA := Lib.hid (rparse_a w)
  have HPB := Lib.hid (fun u => rparse_b u)
  have HMN := Lib.hid (fun u => make_none u)
  go_enter Try.func8, Try.ntmps8
  go_upto_region 2 with (go_at_call 26; refine HPA.out.mono ?_; rintro e w1 ⟨v1, rfl, s1, k1⟩; obtain ⟨A1, c1, rfl, l1, n1⟩ := sT.litA s1; have L1 := Lib.hid l1; have N1 := Lib.hid n1; have K1 := Lib.hid k1; clear s1 l1 n1 k1)
  go_upto_region 3 with (go_at_call 26; refine (HPB.out _).mono ?_; rintro e w2 ⟨v2, rfl, s2, k2⟩; obtain ⟨A2, c2, rfl, l2, n2⟩ := sT.litB s2; have L2 := Lib.hid l2; have N2 := Lib.hid n2; have K2 := Lib.hid (grows K1.out k2); have M1 := Lib.hid (N1.out.below k2); clear s2 l2 n2 k2)
  have HMK := Lib.hid (make_ab (cap := 2) (ndr_two M1.out N2.out L1.out L2.out))
  go_upto_region 4 with (go_at_call 9; refine HMK.out.mono ?_; rintro e w4 ⟨A3, A4, c3, c4, rfl, f4, k4⟩; have F4 := Lib.hid f4; have K4 := Lib.hid (grows K2.out (grows (below_alloc _ _) k4)); have M4 := Lib.hid (M1.out.below (grows (below_alloc _ _) k4)); clear f4 k4)
  obtain ⟨w5, hw5⟩ : ∃ w5, w5 = w4.alloc (.cells #[.slice A3 9 c3, .int .i64 0, .slice A4 9 c4] 28) := ⟨_, rfl⟩
  obtain ⟨B, hB⟩ : ∃ B, B = w4.heap.size := ⟨_, rfl⟩
  have HBL : Hid (Blk w5 B 28 #[.slice A3 9 c3, .int .i64 0, .slice A4 9 c4]) := Lib.hid (by rw [hw5, hB]; exact Blk.fresh _ _ _)
  have F5 : Hid (nfa w5 A3 A4 au) := Lib.hid (by rw [hw5]; exact F4.out.below (below_alloc _ _))
  have M5 : Hid (nds w5 A1 lA) := Lib.hid (by rw [hw5]; exact M4.out.below (below_alloc _ _))
  have K5 : Hid (Below w.heap.size w w5) := Lib.hid (by rw [hw5]; exact grows K4.out (below_alloc _ _))
  rw [← hw5, ← hB]
  clear hw5 hB F4 M4 K4 K1 K2 N1 N2 M1 HMK HPA HPB
  go_upto_region 5 with (go_at_call 9; refine (HMN.out _).mono ?_; rintro e w6 ⟨rfl, k6⟩; have K6 := Lib.hid k6; clear k6)
  obtain ⟨w7, hw7⟩ : ∃ w7, w7 = w6.alloc (.cells #[.slice none 0 0, .int .i64 0, .slice none 0 0] 28) := ⟨_, rfl⟩
  have K57 : Hid (Below w5.heap.size w5 w7) := Lib.hid (by rw [hw7]; exact grows K6.out (below_alloc _ _))
  have HBK : Hid (Blk w7 B 28 #[.slice A3 9 c3, .int .i64 0, .slice A4 9 c4]) := Lib.hid (HBL.out.below K57.out)
  have HB7 : Hid (B < w7.heap.size) := Lib.hid HBK.out.lt
  have F7 : Hid (nfa w7 A3 A4 au) := Lib.hid (F5.out.below K57.out)
  have M7 : Hid (nds w7 A1 lA) := Lib.hid (M5.out.below K57.out)
  have K7 : Hid (Below w.heap.size w w7) := Lib.hid (grows K5.out K57.out)
  rw [← hw7]
  clear hw7 K57 HBL F5 M5 K5 K6
  have d0 := HBK.out.cell 0
  have d1 := HBK.out.cell 1
  have d2 := HBK.out.cell 2
  have c0 := Lib.hid d0
  have c1' := Lib.hid d1
  have c2' := Lib.hid d2
  have HRB := Lib.hid (fun u (k : Below w7.heap.size w7 u) => (show Calls Try.prog 16 #[.agg #[.slice A3 9 c3, .int .i64 0, .slice A4 9 c4], .string ⟨#[98]⟩] u fun e w' => ∃ A c, e = .returned (.slice A 2 c) ∧ row w' A 2 (at0 [0, 1]) ∧ Below u.heap.size u w' from run_k (s := ⟨#[98]⟩) [0, 1] (fun C h => run_b h) (by decide) (F7.out.below k)))
  have HRA := Lib.hid (fun u (k : Below w7.heap.size w7 u) => (show Calls Try.prog 16 #[.agg #[.slice A3 9 c3, .int .i64 0, .slice A4 9 c4], .string ⟨#[97]⟩] u fun e w' => ∃ A c, e = .returned (.slice A 1 c) ∧ row w' A 1 (at0 [0]) ∧ Below u.heap.size u w' from run_k (s := ⟨#[97]⟩) [0] (fun C h => run_a h) (by decide) (F7.out.below k)))
  have HRC := Lib.hid (fun u (k : Below w7.heap.size w7 u) => (show Calls Try.prog 16 #[.agg #[.slice A3 9 c3, .int .i64 0, .slice A4 9 c4], .string ⟨#[97, 98]⟩] u fun e w' => ∃ A c, e = .returned (.slice A 0 c) ∧ row w' A 0 (at0 []) ∧ Below u.heap.size u w' from run_k (s := ⟨#[97, 98]⟩) [] (fun C h => run_ab h) (by decide) (F7.out.below k)))
  have HSZ := Lib.hid (fun u (k : Below w7.heap.size w7 u) => size_k (cap := c1) L1.out (M7.out.below k))
  have HRT := Lib.hid (fun u (k : Below w7.heap.size w7 u) => right_k (c1 := c3) (c2 := c4) (F7.out.below k))
  have KR := Lib.hid (Below.refl w7.heap.size w7)
  clear HMN HBK F7 M7
  go_wp2_with (first | (go_at_call 16; (with_reducible refine (HRB.out _ KR.out).mono ?_); rintro e u1 ⟨Ar, cr, rfl, r1, k1⟩; have R1 := Lib.hid r1; have KR := Lib.hid (KR.out.trans (k1.mono KR.out.size)); clear r1 k1 d0 d1 d2; have d0 := (KR.out.cell (p := ⟨B, 0, none⟩) HB7.out).trans c0.out; have d1 := (KR.out.cell (p := ⟨B, 1, none⟩) HB7.out).trans c1'.out; have d2 := (KR.out.cell (p := ⟨B, 2, none⟩) HB7.out).trans c2'.out) | (go_at_call 16; (with_reducible refine (HRA.out _ KR.out).mono ?_); rintro e u1 ⟨Ar, cr, rfl, r1, k1⟩; have R1 := Lib.hid r1; have KR := Lib.hid (KR.out.trans (k1.mono KR.out.size)); clear r1 k1 d0 d1 d2; have d0 := (KR.out.cell (p := ⟨B, 0, none⟩) HB7.out).trans c0.out; have d1 := (KR.out.cell (p := ⟨B, 1, none⟩) HB7.out).trans c1'.out; have d2 := (KR.out.cell (p := ⟨B, 2, none⟩) HB7.out).trans c2'.out) | (go_at_call 16; (with_reducible refine (HRC.out _ KR.out).mono ?_); rintro e u1 ⟨Ar, cr, rfl, r1, k1⟩; have R1 := Lib.hid r1; have KR := Lib.hid (KR.out.trans (k1.mono KR.out.size)); clear r1 k1 d0 d1 d2; have d0 := (KR.out.cell (p := ⟨B, 0, none⟩) HB7.out).trans c0.out; have d1 := (KR.out.cell (p := ⟨B, 1, none⟩) HB7.out).trans c1'.out; have d2 := (KR.out.cell (p := ⟨B, 2, none⟩) HB7.out).trans c2'.out) | (go_at_call 15; (with_reducible refine (same_2 R1.out).mono ?_); rintro e u1 ⟨rfl, k1⟩; have KR := Lib.hid (KR.out.trans (k1.mono KR.out.size)); clear k1 d0 d1 d2; have d0 := (KR.out.cell (p := ⟨B, 0, none⟩) HB7.out).trans c0.out; have d1 := (KR.out.cell (p := ⟨B, 1, none⟩) HB7.out).trans c1'.out; have d2 := (KR.out.cell (p := ⟨B, 2, none⟩) HB7.out).trans c2'.out) | (go_at_call 15; (with_reducible refine (same_1 R1.out).mono ?_); rintro e u1 ⟨rfl, k1⟩; have KR := Lib.hid (KR.out.trans (k1.mono KR.out.size)); clear k1 d0 d1 d2; have d0 := (KR.out.cell (p := ⟨B, 0, none⟩) HB7.out).trans c0.out; have d1 := (KR.out.cell (p := ⟨B, 1, none⟩) HB7.out).trans c1'.out; have d2 := (KR.out.cell (p := ⟨B, 2, none⟩) HB7.out).trans c2'.out) | (go_at_call 11; (with_reducible refine (HSZ.out _ KR.out).mono ?_); rintro e u1 ⟨rfl, k1⟩; have KR := Lib.hid (KR.out.trans (k1.mono KR.out.size)); clear k1 d0 d1 d2; have d0 := (KR.out.cell (p := ⟨B, 0, none⟩) HB7.out).trans c0.out; have d1 := (KR.out.cell (p := ⟨B, 1, none⟩) HB7.out).trans c1'.out; have d2 := (KR.out.cell (p := ⟨B, 2, none⟩) HB7.out).trans c2'.out) | (go_at_call 14; (with_reducible refine (HRT.out _ KR.out).mono ?_); rintro e u1 ⟨rfl, k1⟩; have KR := Lib.hid (KR.out.trans (k1.mono KR.out.size)); clear k1 d0 d1 d2; have d0 := (KR.out.cell (p := ⟨B, 0, none⟩) HB7.out).trans c0.out; have d1 := (KR.out.cell (p := ⟨B, 1, none⟩) HB7.out).trans c1'.out; have d2 := (KR.out.cell (p := ⟨B, 2, none⟩) HB7.out).trans c2'.out))
  go_ret
  exact ⟨rfl, K7.out.trans (KR.out.mono K7.out.size)⟩
end Go.Proofs.Ythjelilmlbbalaa.On
namespace Go.Proofs.Ythjelilmlbbalaa.Op
open Go.RowKit Go.Proofs.Ythjelilmlbbalaa.Vm Go.Proofs.Ythjelilmlbbalaa.Vo Go.Proofs.Ythjelilmlbbalaa.Bw Go.Proofs.Ythjelilmlbbalaa.Na Go.Proofs.Ythjelilmlbbalaa.Ko Go.Proofs.Ythjelilmlbbalaa.Tm Go.Proofs.Ythjelilmlbbalaa.Rs Go.Proofs.Ythjelilmlbbalaa.Rm Go.Proofs.Ythjelilmlbbalaa.Ra Go.Proofs.Ythjelilmlbbalaa.An Go.Proofs.Ythjelilmlbbalaa.Aa Go.Proofs.Ythjelilmlbbalaa.Ab Go.Proofs.Ythjelilmlbbalaa.Ac Go.Proofs.Ythjelilmlbbalaa.Ad Go.Proofs.Ythjelilmlbbalaa.Ae Go.Proofs.Ythjelilmlbbalaa.As Go.Proofs.Ythjelilmlbbalaa.Aw Go.Proofs.Ythjelilmlbbalaa.Ax Go.Proofs.Ythjelilmlbbalaa.Oa Go.Proofs.Ythjelilmlbbalaa.Oe Go.Proofs.Ythjelilmlbbalaa.Of Go.Proofs.Ythjelilmlbbalaa.On

/-- A list that an answer is. -/
def isU (A : Au) (P : Nat → Prop) (C : List Int) : Prop := (okA A → isL C P) ∧ (¬ okA A → C = [])
theorem isU.ext {A : Au} {P : Nat → Prop} {C C' : List Int} (h : isU A P C) (k : isU A P C') : C = C' := by
  by_cases ho : okA A
  · exact isL.ext (h.1 ho) (k.1 ho) (fun _ => Iff.rfl)
  · rw [h.2 ho, k.2 ho]
def ansU (A : Au) (P : Nat → Prop) (w : World) (e : Ending) (w' : World) : Prop := ∃ A' n c C, e = .returned (.slice A' n c) ∧ isU A P C ∧ n = C.length ∧ row w' A' n (at0 C) ∧ n ≤ 9223372036854775807 ∧ Below w.heap.size w w'
theorem ints_small {w : World} {b : Nat} {e : TypeId} {v : Value} {l : List Int} (h : ints w b e v l) : l.length ≤ 9223372036854775807 := by
  rcases h.2 with ⟨_, h0⟩ | ⟨g, cap, cur, _, _, _, hc, hm, _⟩
  · omega
  · unfold maxLen at hm; omega
theorem ansU_of {A : Au} {P : Nat → Prop} {w w' : World} {e : Ending} (h : ∃ v C, e = .returned v ∧ ints w' w.heap.size 3 v C ∧ (okA A → isL C P) ∧ (¬ okA A → C = []) ∧ Below w.heap.size w w') : ansU A P w e w' := by
  obtain ⟨v, C, rfl, hi, h1, h2, b⟩ := h
  have hs := ints_small hi
  obtain ⟨A', c, rfl⟩ := hi.form
  exact ⟨A', _, c, C, rfl, ⟨h1, h2⟩, rfl, hi.row, hs, b⟩
end Go.Proofs.Ythjelilmlbbalaa.Op
namespace Go.Proofs.Ythjelilmlbbalaa.Oq
open Go.RowKit Go.Proofs.Ythjelilmlbbalaa.Vm Go.Proofs.Ythjelilmlbbalaa.Vo Go.Proofs.Ythjelilmlbbalaa.Bw Go.Proofs.Ythjelilmlbbalaa.Na Go.Proofs.Ythjelilmlbbalaa.Ko Go.Proofs.Ythjelilmlbbalaa.Tm Go.Proofs.Ythjelilmlbbalaa.Rs Go.Proofs.Ythjelilmlbbalaa.Rm Go.Proofs.Ythjelilmlbbalaa.Rv Go.Proofs.Ythjelilmlbbalaa.Ra Go.Proofs.Ythjelilmlbbalaa.Rn Go.Proofs.Ythjelilmlbbalaa.An Go.Proofs.Ythjelilmlbbalaa.Aa Go.Proofs.Ythjelilmlbbalaa.Ab Go.Proofs.Ythjelilmlbbalaa.Ac Go.Proofs.Ythjelilmlbbalaa.Ad Go.Proofs.Ythjelilmlbbalaa.Ae Go.Proofs.Ythjelilmlbbalaa.As Go.Proofs.Ythjelilmlbbalaa.Aw Go.Proofs.Ythjelilmlbbalaa.Ax Go.Proofs.Ythjelilmlbbalaa.Ap Go.Proofs.Ythjelilmlbbalaa.Ao Go.Proofs.Ythjelilmlbbalaa.Ak Go.Proofs.Ythjelilmlbbalaa.Ay Go.Proofs.Ythjelilmlbbalaa.Dm Go.Proofs.Ythjelilmlbbalaa.Dn Go.Proofs.Ythjelilmlbbalaa.Dw Go.Proofs.Ythjelilmlbbalaa.Dx Go.Proofs.Ythjelilmlbbalaa.Oa Go.Proofs.Ythjelilmlbbalaa.Oe Go.Proofs.Ythjelilmlbbalaa.Of Go.Proofs.Ythjelilmlbbalaa.Ol Go.Proofs.Ythjelilmlbbalaa.On Go.Proofs.Ythjelilmlbbalaa.Op

theorem asc_snoc : ∀ {l : List Int} {x : Int}, asc l → (∀ y ∈ l, y < x) → asc (l ++ [x])
  | [], x, _, _ => by simp [asc]
  | a :: l, x, h, k => by
    refine ⟨fun y hy => ?_, asc_snoc h.2 (fun y hy => k y (List.mem_cons_of_mem _ hy))⟩
    rcases List.mem_append.1 hy with hy | hy
    · exact h.1 y hy
    · obtain rfl := List.mem_singleton.1 hy
      exact k a List.mem_cons_self
theorem matQ_isL (s : List Nat) (n : Nat) (ts : List T) : ∀ k, isL (matQ s n ts k) (fun r => r < k ∧ ∃ t, ts[r]? = some t ∧ pairs s t 0 n = true)
  | 0 => by
    refine isL_nil.congr (fun q => ?_)
    exact ⟨fun h => h.elim, fun h => by omega⟩
  | k + 1 => by
    have ih := matQ_isL s n ts k
    unfold matQ
    cases ht : ts[k]? with
    | none =>
      simp only [List.append_nil]
      refine ih.congr (fun q => ?_)
      constructor
      · rintro ⟨h, t, h1, h2⟩
        exact ⟨by omega, t, h1, h2⟩
      · rintro ⟨h, t, h1, h2⟩
        refine ⟨?_, t, h1, h2⟩
        have : q ≠ k := fun e => by rw [e, ht] at h1; cases h1
        omega
    | some t =>
      by_cases hp : pairs s t 0 n = true
      · simp only [hp, if_true]
        refine ⟨asc_snoc ih.a (fun y hy => ?_), fun x => ?_⟩
        · obtain ⟨q, rfl, hq, _⟩ := (ih.m y).1 hy
          omega
        · rw [List.mem_append, ih.m, List.mem_singleton]
          constructor
          · rintro (⟨q, rfl, hq, h⟩ | rfl)
            · exact ⟨q, rfl, by omega, h⟩
            · exact ⟨k, rfl, by omega, t, ht, hp⟩
          · rintro ⟨q, rfl, hq, h⟩
            by_cases e : q = k
            · exact .inr (by rw [e])
            · exact .inl ⟨q, rfl, by omega, h⟩
      · simp only [hp, if_false, List.append_nil, Bool.false_eq_true]
        refine ih.congr (fun q => ?_)
        constructor
        · rintro ⟨h, t', h1, h2⟩
          exact ⟨by omega, t', h1, h2⟩
        · rintro ⟨h, t', h1, h2⟩
          refine ⟨?_, t', h1, h2⟩
          have : q ≠ k := fun e => by
            rw [e, ht] at h1
            obtain rfl := Option.some.inj h1
            exact hp h2
          omega
/-- The rules whose trees match. -/
def isM (ts : List T) (s : List Nat) (r : Nat) : Prop := ∃ t, ts[r]? = some t ∧ Am.mt s t 0 s.length
theorem matQ_isM {ts : List T} (hok : ∀ t ∈ ts, okT t) (s : List Nat) : isL (matQ s s.length ts ts.length) (isM ts s) :=
  (matQ_isL s s.length ts ts.length).congr fun q => by
    constructor
    · rintro ⟨_, t, h1, h2⟩
      exact ⟨t, h1, ((tells_pairs s t (hok t (List.mem_of_getElem? h1))) 0 s.length (by omega) (by omega)).1 h2⟩
    · rintro ⟨t, h1, h2⟩
      exact ⟨(List.getElem?_eq_some_iff.1 h1).1, t, h1, ((tells_pairs s t (hok t (List.mem_of_getElem? h1))) 0 s.length (by omega) (by omega)).2 h2⟩
theorem run_isM {L : List (List Nd)} (h : mkOk L) (s : List Nat) {C : List Int} (hC : isU (auQ (trs L)) (rul (auQ (trs L)) (runs (auQ (trs L)).E (auQ (trs L)).first.toNat s)) C) : isL C (isM (trs L) s) := by
  have hok : okA (auQ (trs L)) := by
    have h2 := h.sum
    exact auQ_ok h.ok (by rw [trs_len]; exact h.l32) (by rw [h2]; exact h.s)
  exact (hC.1 hok).congr (fun q => auQ_rul h.ok s q)
end Go.Proofs.Ythjelilmlbbalaa.Oq
