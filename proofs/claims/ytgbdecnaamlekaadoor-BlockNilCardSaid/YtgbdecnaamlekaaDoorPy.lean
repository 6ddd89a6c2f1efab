/-
  A table that is built with its number of symbols.
  Conditions: none.
-/
import Derived.Test.YtgbdecnaamlekaaDoorPz
import Derived.Laws.Tables
namespace Go.Proofs.YtgbdecnaamlekaaDoor.Py
open Go.RowKit Go.Proofs.YtgbdecnaamlekaaDoor.Pc Go.Proofs.YtgbdecnaamlekaaDoor.Pz

theorem rep_eq (N : Nat) (c : Value) : Array.replicate N c = cellsN N (fun _ => c) := by
  apply Array.ext
  · simp [cellsN]
  · intro i h1 h2
    simp [cellsN]
theorem tz_eq : tz = tcells (.pointer none) 0 (fun _ => (0, 0)) (.slice none 0 0) := by
  unfold tz tcells
  rw [rep_eq, cellsN_set, cellsN_set, cellsN_set]
  refine cellsN_congr fun i hi => ?_
  unfold tcell
  by_cases e2 : i = 1026
  · rw [if_pos e2, if_neg (by omega), if_neg (by omega), if_pos e2]
  · rw [if_neg e2]
    by_cases e1 : i = 1
    · rw [if_pos e1, if_neg (by omega), if_pos e1]; rfl
    · rw [if_neg e1]
      by_cases e0 : i = 0
      · rw [if_pos e0, if_pos e0]
      · rw [if_neg e0, if_neg e0, if_neg e1, if_neg e2]
        unfold pr; split <;> rfl
theorem t_set1 (me : Value) (n m : Nat) (F : Nat → Nat × Nat) (v : Value) : (tcells me n F v).setIfInBounds 1 (.int .i64 m) = tcells me m F v := by
  unfold tcells
  rw [cellsN_set]
  refine cellsN_congr fun i hi => ?_
  unfold tcell
  by_cases e : i = 1
  · rw [if_pos e, if_neg (by omega), if_pos e]
  · rw [if_neg e]
    by_cases e3 : i = 0
    · rw [if_pos e3, if_pos e3]
    · rw [if_neg e3, if_neg e3, if_neg e, if_neg e]
theorem zeroT : ∃ i, Tryd.prog.info? 128 = some i ∧ i.zero = some (.agg (tcells (.pointer none) 0 (fun _ => (0, 0)) (.slice none 0 0))) := by
  have h := infoZ
  rw [tz_eq] at h
  cases hq : Tryd.prog.info? 128 with
  | none => rw [hq] at h; cases h
  | some i => rw [hq] at h; exact ⟨i, rfl, by simpa using h⟩
theorem t_size (me : Value) (n : Nat) (F : Nat → Nat × Nat) (v : Value) : (tcells me n F v).size = 1027 := cellsN_size _ _
theorem built (n : Nat) : Tryd.prog.built 128 [(1, .int .i64 n)] = some (tcells (.pointer none) n (fun _ => (0, 0)) (.slice none 0 0)) := by
  obtain ⟨i, hi, hz⟩ := zeroT
  have hp := places
  have hu := Tryd.underlying128
  rw [hu] at hp
  simp only [Option.map_some, Option.some.injEq] at hp
  unfold Program.built
  rw [hi, hu]
  simp only [hz, hp]
  have hs := t_size (.pointer none) 0 (fun _ => (0, 0)) (.slice none 0 0)
  have h1 := t_set1 (.pointer none) 0 n (fun _ => (0, 0)) (.slice none 0 0)
  generalize tcells (.pointer none) 0 (fun _ => (0, 0)) (.slice none 0 0) = T at *
  simp [Instr.fill, Value.cells, hs]
  exact h1
theorem run_built (n : Nat) (u : World) : (Instr.build 128 #[(1, .int .i64 n)]).run Tryd.prog u = .ok (.agg (tcells (.pointer none) n (fun _ => (0, 0)) (.slice none 0 0))) u :=
  run_build u 128 #[(1, .int .i64 n)] _ (built n)

theorem built0 : Tryd.prog.built 128 [] = some (tcells (.pointer none) 0 (fun _ => (0, 0)) (.slice none 0 0)) := by
  obtain ⟨i, hi, hz⟩ := zeroT
  have hp := places
  have hu := Tryd.underlying128
  rw [hu] at hp
  simp only [Option.map_some, Option.some.injEq] at hp
  unfold Program.built
  rw [hi, hu]
  simp only [hz, hp]
  generalize tcells (.pointer none) 0 (fun _ => (0, 0)) (.slice none 0 0) = T at *
  simp [Instr.fill, Value.cells]
end Go.Proofs.YtgbdecnaamlekaaDoor.Py
