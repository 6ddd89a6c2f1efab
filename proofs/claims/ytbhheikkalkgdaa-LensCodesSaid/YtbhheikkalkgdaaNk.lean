/-
  Ints at rows that are alike; known() answers true.
  Conditions: none but the rows.
-/
import Derived.Test.YtbhheikkalkgdaaNh
set_option linter.unusedSimpArgs false
namespace Go.Proofs.Ytbhheikkalkgdaa.Nk
open Go.RowKit Go.Proofs.Ytbhheikkalkgdaa.Vm Go.Proofs.Ytbhheikkalkgdaa.Na Go.Proofs.Ytbhheikkalkgdaa.Nm Go.Proofs.Ytbhheikkalkgdaa.Bw Go.Proofs.Ytbhheikkalkgdaa.Ni Go.Proofs.Ytbhheikkalkgdaa.Nc Go.Proofs.Ytbhheikkalkgdaa.Nd Go.Proofs.Ytbhheikkalkgdaa.Ne Go.Proofs.Ytbhheikkalkgdaa.Nf Go.Proofs.Ytbhheikkalkgdaa.Ng Go.Proofs.Ytbhheikkalkgdaa.Nh

theorem below_drews {B : Nat} {a b : World} (h : Below B a b) (n : Nat) : Below B a (b.drewN n) := ⟨h.os, h.tape, h.output, h.size, h.block⟩

set_option maxRecDepth 100000 in
theorem Ints_same {A B : Option Addr} {n capA capB : Nat} {f : Nat → Int} (hn : n ≤ 9223372036854775807) {w : World} (HA : Hid (row w A n f)) (HB : Hid (row w B n f)) :
    Calls Try.prog 10 #[.slice A n capA, .slice B n capB] w fun e w' => e = .returned (.bool true) ∧ Below w.heap.size w w' := by
  go_enter Try.func10, Try.ntmps10
  go_wp2
  go_loopw [5] (fun i wr => ∃ k : Nat, i = .int .i64 k ∧ k ≤ n ∧ Hid (Below w.heap.size w wr)) (fun i _ => n - (intOf i).toNat)
  case atStart => exact ⟨0, rfl, by omega, Lib.hid (Below.refl _ _)⟩
  case round =>
    obtain ⟨k, rfl, hk, HW⟩ := hrel
    by_cases hkn : k < n
    · obtain ⟨b, off, rfl, hbl, hc⟩ := (HA.out.below HW.out) k hkn
      obtain ⟨b', off', rfl, hbl', hc'⟩ := (HB.out.below HW.out) k hkn
      obtain ⟨x, hx⟩ : ∃ x, x = f k := ⟨_, rfl⟩
      rw [← hx] at hc hc'
      clear hx
      go_wp2
      go_quiet (fail)
      go_wp2
      go_roundw
      case rel => exact ⟨k + 1, by go_num, by omega, Lib.hid (below_drews HW.out _)⟩
      case measure => simp [intOf]; omega
    · go_wp2
      go_ret
      exact ⟨rfl, HW.out⟩

def of (l : List Int) (i : Nat) : Int := l.getD i 0
theorem row_of {w : World} {g : Nat} {t : TypeId} {l : List Int} {cs : Array Value} (h : Blk w g t cs) (e : ∀ i, i < l.length → cs[i]? = some (.int .i64 (of l i))) : row w (some ⟨g, 0, none⟩) l.length (of l) := fun i hi =>
  ⟨g, 0, rfl, h.lt, by rw [Nat.zero_add, h.cell, e i hi]⟩

theorem four {w : World} {g : Nat} (a b c d : Int) (h : Blk w g 3 #[.int .i64 a, .int .i64 b, .int .i64 c, .int .i64 d]) : Hid (row w (some ⟨g, 0, none⟩) 4 (of [a, b, c, d])) := Lib.hid (row_of (l := [a, b, c, d]) h (fun i hi => by
  have : i < 4 := hi
  rcases (show i = 0 ∨ i = 1 ∨ i = 2 ∨ i = 3 by omega) with rfl | rfl | rfl | rfl <;> rfl))
theorem three {w : World} {g : Nat} (a b c : Int) (h : Blk w g 3 #[.int .i64 a, .int .i64 b, .int .i64 c]) : Hid (row w (some ⟨g, 0, none⟩) 3 (of [a, b, c])) := Lib.hid (row_of (l := [a, b, c]) h (fun i hi => by
  have : i < 3 := hi
  rcases (show i = 0 ∨ i = 1 ∨ i = 2 by omega) with rfl | rfl | rfl <;> rfl))
theorem two {w : World} {g : Nat} (a b : Int) (h : Blk w g 3 #[.int .i64 a, .int .i64 b]) : Hid (row w (some ⟨g, 0, none⟩) 2 (of [a, b])) := Lib.hid (row_of (l := [a, b]) h (fun i hi => by
  have : i < 2 := hi
  rcases (show i = 0 ∨ i = 1 by omega) with rfl | rfl <;> rfl))

theorem k1 (u : World) : Calls Try.prog 8 #[.slice (some ⟨u.heap.size, 0, none⟩) 4 4] (u.alloc (.cells #[.int .i64 2, .int .i64 1, .int .i64 3, .int .i64 3] 3))
    fun e w' => ∃ g, e = .returned (.tuple #[.slice (some ⟨g, 0, none⟩) 4 4, .int .i64 0]) ∧ row w' (some ⟨g, 0, none⟩) 4 (of [2, 0, 6, 7]) ∧ Below u.heap.size u w' := by
  refine (Codes_ok (n := 4) (f := of [2, 1, 3, 3]) (by decide +kernel) (four _ _ _ _ (Blk.fresh u _ _))).mono ?_
  rintro e w' ⟨g, rfl, h, _, hb⟩
  refine ⟨g, rfl, (row_of_blk h).congr (fun i hi => ?_), grows (below_alloc _ _) hb⟩
  rcases (show i = 0 ∨ i = 1 ∨ i = 2 ∨ i = 3 by omega) with rfl | rfl | rfl | rfl <;> decide +kernel
theorem k2 (u : World) : Calls Try.prog 8 #[.slice (some ⟨u.heap.size, 0, none⟩) 3 3] (u.alloc (.cells #[.int .i64 1, .int .i64 1, .int .i64 1] 3))
    fun e w' => e = .returned (.tuple #[.slice none 0 0, .int .i64 7]) ∧ Below u.heap.size u w' := by
  have h7 : err 3 (of [1, 1, 1]) = 7 := by decide +kernel
  have h := Codes_no (n := 3) (cap := 3) (f := of [1, 1, 1]) (by omega) (by rw [h7]; omega) (three _ _ _ (Blk.fresh u 3 #[.int .i64 1, .int .i64 1, .int .i64 1]))
  rw [h7] at h
  refine h.mono ?_
  rintro e w' ⟨rfl, hb⟩
  exact ⟨rfl, grows (below_alloc _ _) hb⟩
theorem k3 (u : World) (g : Nat) (h : row u (some ⟨g, 0, none⟩) 4 (of [2, 0, 6, 7])) : Calls Try.prog 10 #[.slice (some ⟨g, 0, none⟩) 4 4, .slice (some ⟨u.heap.size, 0, none⟩) 4 4] (u.alloc (.cells #[.int .i64 2, .int .i64 0, .int .i64 6, .int .i64 7] 3))
    fun e w' => e = .returned (.bool true) ∧ Below u.heap.size u w' := by
  refine (Ints_same (n := 4) (by omega) (Lib.hid (h.below (below_alloc _ _))) (four _ _ _ _ (Blk.fresh u _ _))).mono ?_
  rintro e w' ⟨rfl, hb⟩
  exact ⟨rfl, grows (below_alloc _ _) hb⟩
theorem k4 (u : World) : Calls Try.prog 13 #[.slice (some ⟨u.heap.size, 0, none⟩) 2 2, .bool false] (u.alloc (.cells #[.int .i64 1, .int .i64 0] 3))
    fun e w' => e = .returned (.int .i64 8) ∧ Below u.heap.size u w' := by
  have h7 : fit 2 (of [1, 0]) false = 8 := by decide +kernel
  have h := Fits_any (n := 2) (cap := 2) (f := of [1, 0]) false (by omega) (two _ _ (Blk.fresh u 3 #[.int .i64 1, .int .i64 0]))
  rw [h7] at h
  refine h.mono ?_
  rintro e w' ⟨rfl, hb⟩
  exact ⟨rfl, grows (below_alloc _ _) hb⟩
theorem k5 (u : World) : Calls Try.prog 13 #[.slice (some ⟨u.heap.size, 0, none⟩) 2 2, .bool true] (u.alloc (.cells #[.int .i64 1, .int .i64 0] 3))
    fun e w' => e = .returned (.int .i64 0) ∧ Below u.heap.size u w' := by
  have h7 : fit 2 (of [1, 0]) true = 0 := by decide +kernel
  have h := Fits_any (n := 2) (cap := 2) (f := of [1, 0]) true (by omega) (two _ _ (Blk.fresh u 3 #[.int .i64 1, .int .i64 0]))
  rw [h7] at h
  refine h.mono ?_
  rintro e w' ⟨rfl, hb⟩
  exact ⟨rfl, grows (below_alloc _ _) hb⟩
theorem k6 (u : World) : Calls Try.prog 11 #[.slice (some ⟨u.heap.size, 0, none⟩) 2 2] (u.alloc (.cells #[.int .i64 1, .int .i64 1] 3))
    fun e w' => e = .returned (.int .i64 32768) ∧ Below u.heap.size u w' := by
  have h7 : kra 2 (of [1, 1]) = 32768 := by decide +kernel
  have h := Kraft_any (n := 2) (cap := 2) (f := of [1, 1]) (by omega) (two _ _ (Blk.fresh u 3 #[.int .i64 1, .int .i64 1]))
  rw [h7] at h
  refine h.mono ?_
  rintro e w' ⟨rfl, hb⟩
  exact ⟨rfl, grows (below_alloc _ _) hb⟩

set_option maxRecDepth 100000 in
theorem known_any (w : World) :
    Calls Try.prog 7 #[] w fun e w' => e = .returned (.bool true) ∧ Below w.heap.size w w' := by
  go_enter Try.func7, Try.ntmps7
  go_wp2_with fail
  refine (k1 w).mono ?_
  rintro e w1 ⟨g, rfl, h1, b1⟩
  have B1 := Lib.hid b1
  have H1 := Lib.hid h1
  clear b1 h1
  go_wp2_with fail
  refine (k2 w1).mono ?_
  rintro e w2 ⟨rfl, b2⟩
  have B2 := Lib.hid (grows B1.out b2)
  have H2 := Lib.hid (H1.out.below b2)
  clear b2 H1 B1
  go_wp2_with fail
  refine (k3 w2 g H2.out).mono ?_
  rintro e w3 ⟨rfl, b3⟩
  have B3 := Lib.hid (grows B2.out b3)
  clear b3 H2 B2
  go_wp2_with fail
  refine (k4 w3).mono ?_
  rintro e w4 ⟨rfl, b4⟩
  have B4 := Lib.hid (grows B3.out b4)
  clear b4 B3
  go_wp2_with fail
  refine (k5 w4).mono ?_
  rintro e w5 ⟨rfl, b5⟩
  have B5 := Lib.hid (grows B4.out b5)
  clear b5 B4
  go_wp2_with fail
  refine (k6 w5).mono ?_
  rintro e w6 ⟨rfl, b6⟩
  have B6 := Lib.hid (grows B5.out b6)
  clear b6 B5
  go_wp2
  go_ret
  exact ⟨rfl, B6.out⟩
end Go.Proofs.Ytbhheikkalkgdaa.Nk
