/-
  Ints at rows that are alike; known() answers true.
  Conditions: as each theorem says.
-/
import Derived.Test.YtnkninjdpgpkmaaGreatDoorBah
set_option linter.unusedSimpArgs false
namespace Go.Proofs.YtnkninjdpgpkmaaGreatDoor.Nk
open Go.RowKit Go.Proofs.YtnkninjdpgpkmaaGreatDoor.Vm Go.Proofs.YtnkninjdpgpkmaaGreatDoor.Na Go.Proofs.YtnkninjdpgpkmaaGreatDoor.Nm Go.Proofs.YtnkninjdpgpkmaaGreatDoor.Bw Go.Proofs.YtnkninjdpgpkmaaGreatDoor.Ni Go.Proofs.YtnkninjdpgpkmaaGreatDoor.Nc Go.Proofs.YtnkninjdpgpkmaaGreatDoor.Nd Go.Proofs.YtnkninjdpgpkmaaGreatDoor.Ne Go.Proofs.YtnkninjdpgpkmaaGreatDoor.Nf Go.Proofs.YtnkninjdpgpkmaaGreatDoor.Ng Go.Proofs.YtnkninjdpgpkmaaGreatDoor.Nh

theorem below_drews {B : Nat} {a b : World} (h : Below B a b) (n : Nat) : Below B a (b.drewN n) := ⟨h.os, h.tape, h.output, h.size, h.block⟩

def of (l : List Int) (i : Nat) : Int := l.getD i 0
theorem row_of {w : World} {g : Nat} {t : TypeId} {l : List Int} {cs : Array Value} (h : Blk w g t cs) (e : ∀ i, i < l.length → cs[i]? = some (.int .i64 (of l i))) : row w (some ⟨g, 0, none⟩) l.length (of l) := fun i hi =>
  ⟨g, 0, rfl, h.lt, by rw [Nat.zero_add, h.cell, e i hi]⟩

theorem four {w : World} {g : Nat} (a b c d : Int) (h : Blk w g 3 #[.int .i64 a, .int .i64 b, .int .i64 c, .int .i64 d]) : Hid (row w (some ⟨g, 0, none⟩) 4 (of [a, b, c, d])) := Lib.hid (row_of (l := [a, b, c, d]) h (fun i hi => by
  have : i < 4 := hi
  rcases (show i = 0 ∨ i = 1 ∨ i = 2 ∨ i = 3 by omega) with rfl | rfl | rfl | rfl <;> rfl))
theorem three {w : World} {g : Nat} (a b c : Int) (h : Blk w g 3 #[.int .i64 a, .int .i64 b, .int .i64 c]) : Hid (row w (some ⟨g, 0, none⟩) 3 (of [a, b, c])) := Lib.hid (row_of (l := [a, b, c]) h (fun i hi => by
  have : i < 3 := hi
  rcases (show i = 0 ∨ i = 1 ∨ i = 2 by omega) with rfl | rfl | rfl <;> rfl))
theorem two {w : World} {g : Nat} (a b : Int) (h : Blk w g 3 #[.int .i64 a, .int .i64 b]) : Hid (row w (some ⟨g, 0, none⟩) 2 (of [a, b])) := Lib.hid (row_of (l := [a, b]) h (fun i hi => by
  have : i < 2 := hi
  rcases (show i = 0 ∨ i = 1 by omega) with rfl | rfl <;> rfl))

theorem k1 (u : World) : Calls Tryz.prog 130 #[.slice (some ⟨u.heap.size, 0, none⟩) 4 4] (u.alloc (.cells #[.int .i64 2, .int .i64 1, .int .i64 3, .int .i64 3] 3))
    fun e w' => ∃ g, e = .returned (.tuple #[.slice (some ⟨g, 0, none⟩) 4 4, .int .i64 0]) ∧ row w' (some ⟨g, 0, none⟩) 4 (of [2, 0, 6, 7]) ∧ Below u.heap.size u w' := by
  refine (Codes_ok (n := 4) (f := of [2, 1, 3, 3]) (by decide +kernel) (four _ _ _ _ (Blk.fresh u _ _))).mono ?_
  rintro e w' ⟨g, rfl, h, _, hb⟩
  refine ⟨g, rfl, (row_of_blk h).congr (fun i hi => ?_), grows (below_alloc _ _) hb⟩
  rcases (show i = 0 ∨ i = 1 ∨ i = 2 ∨ i = 3 by omega) with rfl | rfl | rfl | rfl <;> decide +kernel
theorem k2 (u : World) : Calls Tryz.prog 130 #[.slice (some ⟨u.heap.size, 0, none⟩) 3 3] (u.alloc (.cells #[.int .i64 1, .int .i64 1, .int .i64 1] 3))
    fun e w' => e = .returned (.tuple #[.slice none 0 0, .int .i64 7]) ∧ Below u.heap.size u w' := by
  have h7 : err 3 (of [1, 1, 1]) = 7 := by decide +kernel
  have h := Codes_no (n := 3) (cap := 3) (f := of [1, 1, 1]) (by omega) (by rw [h7]; omega) (three _ _ _ (Blk.fresh u 3 #[.int .i64 1, .int .i64 1, .int .i64 1]))
  rw [h7] at h
  refine h.mono ?_
  rintro e w' ⟨rfl, hb⟩
  exact ⟨rfl, grows (below_alloc _ _) hb⟩
theorem k4 (u : World) : Calls Tryz.prog 168 #[.slice (some ⟨u.heap.size, 0, none⟩) 2 2, .bool false] (u.alloc (.cells #[.int .i64 1, .int .i64 0] 3))
    fun e w' => e = .returned (.int .i64 8) ∧ Below u.heap.size u w' := by
  have h7 : fit 2 (of [1, 0]) false = 8 := by decide +kernel
  have h := Fits_any (n := 2) (cap := 2) (f := of [1, 0]) false (by omega) (two _ _ (Blk.fresh u 3 #[.int .i64 1, .int .i64 0]))
  rw [h7] at h
  refine h.mono ?_
  rintro e w' ⟨rfl, hb⟩
  exact ⟨rfl, grows (below_alloc _ _) hb⟩
theorem k5 (u : World) : Calls Tryz.prog 168 #[.slice (some ⟨u.heap.size, 0, none⟩) 2 2, .bool true] (u.alloc (.cells #[.int .i64 1, .int .i64 0] 3))
    fun e w' => e = .returned (.int .i64 0) ∧ Below u.heap.size u w' := by
  have h7 : fit 2 (of [1, 0]) true = 0 := by decide +kernel
  have h := Fits_any (n := 2) (cap := 2) (f := of [1, 0]) true (by omega) (two _ _ (Blk.fresh u 3 #[.int .i64 1, .int .i64 0]))
  rw [h7] at h
  refine h.mono ?_
  rintro e w' ⟨rfl, hb⟩
  exact ⟨rfl, grows (below_alloc _ _) hb⟩
end Go.Proofs.YtnkninjdpgpkmaaGreatDoor.Nk
