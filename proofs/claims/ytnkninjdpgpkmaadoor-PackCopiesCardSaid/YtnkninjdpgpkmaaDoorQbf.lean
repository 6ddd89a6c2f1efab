/-
  The cells of a table of prefix codes, and fill, which sets every cell whose lowest bits are these.
  A table of prefix codes in memory; isNone, Symbols and find, called with a table that New made: their results; nothing that was there has changed.
  The zero value of a table.
  A table that is built with its number of symbols.
  Conditions: as each theorem says.
-/
import Derived.Test.YtnkninjdpgpkmaaDoorQai
import Derived.Test.YtnkninjdpgpkmaaDoorQaf
import Derived.Test.YtnkninjdpgpkmaaDoorQay
import Derived.StillTailTactics
import Derived.Deep.QuietTactic
import Derived.BigQuiet
import Derived.Laws.Tables
namespace Go.Proofs.YtnkninjdpgpkmaaDoor.Pc
open Go.RowKit Go.Proofs.YtnkninjdpgpkmaaDoor.Vm Go.Proofs.YtnkninjdpgpkmaaDoor.Bm Go.Proofs.YtnkninjdpgpkmaaDoor.Bw Go.Proofs.YtnkninjdpgpkmaaDoor.Bs Go.Proofs.YtnkninjdpgpkmaaDoor.Na Go.Proofs.YtnkninjdpgpkmaaDoor.Ne

/-- Cells by their places. -/
def cellsN (n : Nat) (h : Nat → Value) : Array Value := Array.ofFn (n := n) fun i => h i.val
theorem cellsN_size (n : Nat) (h : Nat → Value) : (cellsN n h).size = n := by simp [cellsN]
theorem cellsN_get {n : Nat} (h : Nat → Value) {i : Nat} (hi : i < n) : (cellsN n h)[i]? = some (h i) := by simp [cellsN, hi]
theorem cellsN_congr {n : Nat} {h h' : Nat → Value} (e : ∀ i, i < n → h i = h' i) : cellsN n h = cellsN n h' := by
  unfold cellsN; congr 1; funext i; exact e _ i.isLt
theorem cellsN_set (n : Nat) (h : Nat → Value) (k : Nat) (v : Value) : (cellsN n h).setIfInBounds k v = cellsN n (fun i => if i = k then v else h i) := by
  apply Array.ext
  · simp [cellsN]
  · intro i h1 h2
    have hi : i < (cellsN n h).size := by simpa using h1
    rw [Array.getElem_setIfInBounds hi]
    by_cases e : k = i
    · subst e; simp [cellsN]
    · rw [if_neg e]; simp [cellsN, show ¬ i = k by omega]
/-- Cell i of a row of pairs. -/
def pr (F : Nat → Nat × Nat) (i : Nat) : Value := .int .u16 (if i % 2 = 0 then ((F (i / 2)).1 : Int) else ((F (i / 2)).2 : Int))
/-- A second table's cells. -/
def scells (F : Nat → Nat × Nat) : Array Value := cellsN 128 (pr F)
/-- A table's cells. -/
def tcell (me : Value) (n : Nat) (F : Nat → Nat × Nat) (v : Value) (i : Nat) : Value := if i = 0 then me else if i = 1 then .int .i64 n else if i = 1026 then v else pr F (i - 2)
def tcells (me : Value) (n : Nat) (F : Nat → Nat × Nat) (v : Value) : Array Value := cellsN 1027 (tcell me n F v)
/-- V's cells from off on are m pairs. -/
structure pairs (V : (Nat → Nat × Nat) → Array Value) (off m : Nat) : Prop where
  c1 : ∀ F j, j < m → (V F)[off + j * 2]? = some (.int .u16 (F j).1)
  c2 : ∀ F j, j < m → (V F)[off + j * 2 + 1]? = some (.int .u16 (F j).2)
  set : ∀ F j (a b : Nat), j < m → ((V F).setIfInBounds (off + j * 2) (.int .u16 a)).setIfInBounds (off + j * 2 + 1) (.int .u16 b) = V (fun q => if q = j then (a, b) else F q)
  congr : ∀ F F', (∀ j, j < m → F j = F' j) → V F = V F'
theorem pr_even (F : Nat → Nat × Nat) (j : Nat) : pr F (2 * j) = .int .u16 (F j).1 := by
  unfold pr; rw [if_pos (by omega), show 2 * j / 2 = j by omega]
theorem pr_odd (F : Nat → Nat × Nat) (j : Nat) : pr F (2 * j + 1) = .int .u16 (F j).2 := by
  unfold pr; rw [if_neg (by omega), show (2 * j + 1) / 2 = j by omega]
theorem pr_congr {F F' : Nat → Nat × Nat} {i : Nat} (h : F (i / 2) = F' (i / 2)) : pr F i = pr F' i := by unfold pr; rw [h]
theorem pr_set (F : Nat → Nat × Nat) (j a b i : Nat) : pr (fun q => if q = j then (a, b) else F q) i = if i = 2 * j then .int .u16 a else if i = 2 * j + 1 then .int .u16 b else pr F i := by
  by_cases h1 : i = 2 * j
  · rw [if_pos h1, h1, pr_even, if_pos rfl]
  · rw [if_neg h1]
    by_cases h2 : i = 2 * j + 1
    · rw [if_pos h2, h2, pr_odd, if_pos rfl]
    · rw [if_neg h2]
      exact pr_congr (if_neg (by omega))
theorem tcell_pr {me : Value} {n : Nat} {F : Nat → Nat × Nat} {v : Value} {i : Nat} (h : 2 ≤ i) (h2 : i < 1026) : tcell me n F v i = pr F (i - 2) := by
  unfold tcell; rw [if_neg (by omega), if_neg (by omega), if_neg (by omega)]
theorem tcell_same {me : Value} {n : Nat} {F F' : Nat → Nat × Nat} {v : Value} {i : Nat} (h : i = 0 ∨ i = 1 ∨ i = 1026 ∨ pr F (i - 2) = pr F' (i - 2)) : tcell me n F v i = tcell me n F' v i := by
  unfold tcell
  by_cases e3 : i = 0
  · rw [if_pos e3, if_pos e3]
  · rw [if_neg e3, if_neg e3]
    by_cases e4 : i = 1
    · rw [if_pos e4, if_pos e4]
    · rw [if_neg e4, if_neg e4]
      by_cases e5 : i = 1026
      · rw [if_pos e5, if_pos e5]
      · rw [if_neg e5, if_neg e5]
        rcases h with h | h | h | h
        · exact absurd h e3
        · exact absurd h e4
        · exact absurd h e5
        · exact h
theorem pairs_s : pairs scells 0 64 := by
  refine ⟨fun F j h => ?_, fun F j h => ?_, fun F j a b h => ?_, fun F F' h => cellsN_congr fun i hi => pr_congr (h _ (by omega))⟩
  all_goals try rw [Nat.mul_comm j 2]
  · rw [Nat.zero_add, ← pr_even]; exact cellsN_get _ (by omega)
  · rw [Nat.zero_add, ← pr_odd]; exact cellsN_get _ (by omega)
  · unfold scells
    rw [cellsN_set, cellsN_set, Nat.zero_add]
    refine cellsN_congr fun i hi => ?_
    rw [pr_set]
    by_cases e1 : i = 2 * j
    · rw [if_neg (by omega), if_pos e1, if_pos e1]
    · by_cases e2 : i = 2 * j + 1
      · rw [if_pos e2, if_neg e1, if_pos e2]
      · rw [if_neg e2, if_neg e1, if_neg e1, if_neg e2]
theorem pairs_t (me : Value) (n : Nat) (v : Value) : pairs (fun F => tcells me n F v) 2 512 := by
  refine ⟨fun F j h => ?_, fun F j h => ?_, fun F j a b h => ?_, fun F F' h => cellsN_congr fun i hi => tcell_same ?_⟩
  all_goals try rw [Nat.mul_comm j 2]
  · show (tcells me n F v)[2 + 2 * j]? = _
    rw [tcells, cellsN_get _ (by omega), tcell_pr (by omega) (by omega), show 2 + 2 * j - 2 = 2 * j by omega, pr_even]
  · show (tcells me n F v)[2 + 2 * j + 1]? = _
    rw [tcells, cellsN_get _ (by omega), tcell_pr (by omega) (by omega), show 2 + 2 * j + 1 - 2 = 2 * j + 1 by omega, pr_odd]
  · show ((tcells me n F v).setIfInBounds _ _).setIfInBounds _ _ = tcells me n _ v
    unfold tcells
    rw [cellsN_set, cellsN_set]
    refine cellsN_congr fun i hi => ?_
    by_cases e1 : i = 2 + 2 * j
    · rw [if_neg (by omega), if_pos e1, tcell_pr (by omega) (by omega), pr_set, if_pos (by omega)]
    · by_cases e2 : i = 2 + 2 * j + 1
      · rw [if_pos e2, tcell_pr (by omega) (by omega), pr_set, if_neg (by omega), if_pos (by omega)]
      · rw [if_neg e2, if_neg e1]
        refine tcell_same ?_
        by_cases e3 : i = 0
        · exact .inl e3
        · by_cases e4 : i = 1
          · exact .inr (.inl e4)
          · exact .inr (.inr (.inr (by rw [pr_set, if_neg (by omega), if_neg (by omega)])))
  · by_cases e3 : i = 0
    · exact .inl e3
    · by_cases e4 : i = 1
      · exact .inr (.inl e4)
      · by_cases e5 : i = 1026
        · exact .inr (.inr (.inl e5))
        · exact .inr (.inr (.inr (pr_congr (h _ (by omega)))))
theorem t_c0 (me : Value) (n : Nat) (F : Nat → Nat × Nat) (v : Value) : (tcells me n F v)[0]? = some me := cellsN_get _ (by omega)
theorem t_c1 (me : Value) (n : Nat) (F : Nat → Nat × Nat) (v : Value) : (tcells me n F v)[1]? = some (.int .i64 n) := cellsN_get _ (by omega)
theorem t_cl (me : Value) (n : Nat) (F : Nat → Nat × Nat) (v : Value) : (tcells me n F v)[1026]? = some v := cellsN_get _ (by omega)
theorem t_set0 (me me' : Value) (n : Nat) (F : Nat → Nat × Nat) (v : Value) : (tcells me n F v).setIfInBounds 0 me' = tcells me' n F v := by
  unfold tcells
  rw [cellsN_set]
  refine cellsN_congr fun i hi => ?_
  unfold tcell
  by_cases e : i = 0
  · rw [if_pos e, if_pos e]
  · rw [if_neg e, if_neg e, if_neg e]
theorem t_setl (me : Value) (n : Nat) (F : Nat → Nat × Nat) (v v' : Value) : (tcells me n F v).setIfInBounds 1026 v' = tcells me n F v' := by
  unfold tcells
  rw [cellsN_set]
  refine cellsN_congr fun i hi => ?_
  unfold tcell
  by_cases e : i = 1026
  · rw [if_pos e, if_neg (by omega), if_neg (by omega), if_pos e]
  · rw [if_neg e]
    by_cases e3 : i = 0
    · rw [if_pos e3, if_pos e3]
    · rw [if_neg e3, if_neg e3]
      by_cases e4 : i = 1
      · rw [if_pos e4, if_pos e4]
      · rw [if_neg e4, if_neg e4, if_neg e, if_neg e]

/-- The cells behind fill. -/
def filled (F : Nat → Nat × Nat) (s b : Nat) (c : Nat × Nat) : Nat → Nat × Nat := fun j => if j % 2 ^ s = b then c else F j
def upto (F : Nat → Nat × Nat) (s b : Nat) (c : Nat × Nat) (a : Nat) : Nat → Nat × Nat := fun j => if j % 2 ^ s = b ∧ j < a then c else F j

theorem upto_start (F : Nat → Nat × Nat) {s b : Nat} (c : Nat × Nat) (_hb : b < 2 ^ s) : upto F s b c b = F := by
  funext j
  unfold upto
  rw [if_neg]
  rintro ⟨h1, h2⟩
  have := Nat.mod_le j (2 ^ s)
  rw [Nat.mod_eq_of_lt (by omega)] at h1
  omega
theorem upto_next (F : Nat → Nat × Nat) {s b a : Nat} (c : Nat × Nat) (ha : a % 2 ^ s = b) : (fun q => if q = a then c else upto F s b c a q) = upto F s b c (a + 2 ^ s) := by
  funext j
  unfold upto
  have hp := Nat.two_pow_pos s
  by_cases e : j = a
  · rw [if_pos e, if_pos ⟨by rw [e]; exact ha, by omega⟩]
  · rw [if_neg e]
    by_cases h1 : j % 2 ^ s = b
    · by_cases h2 : j < a
      · rw [if_pos ⟨h1, h2⟩, if_pos ⟨h1, by omega⟩]
      · rw [if_neg (fun h => h2 h.2), if_neg]
        rintro ⟨_, h3⟩
        have e1 := Nat.mod_add_div j (2 ^ s)
        have e2 := Nat.mod_add_div a (2 ^ s)
        rw [h1] at e1
        rw [ha] at e2
        have h4 : 2 ^ s * (a / 2 ^ s) < 2 ^ s * (j / 2 ^ s) := by omega
        have h5 : 2 ^ s * (j / 2 ^ s) < 2 ^ s * (a / 2 ^ s + 1) := by rw [Nat.mul_add]; omega
        have h6 := Nat.lt_of_mul_lt_mul_left h4
        have h7 := Nat.lt_of_mul_lt_mul_left h5
        omega
    · rw [if_neg (fun h => h1 h.1), if_neg (fun h => h1 h.1)]
theorem upto_end (F : Nat → Nat × Nat) {s b a m : Nat} (c : Nat × Nat) (ha : m ≤ a) {j : Nat} (hj : j < m) : upto F s b c a j = filled F s b c j := by
  unfold upto filled
  by_cases h : j % 2 ^ s = b
  · rw [if_pos h, if_pos ⟨h, by omega⟩]
  · rw [if_neg h, if_neg (fun h' => h h'.1)]
theorem mod_next {a s b : Nat} (h : a % 2 ^ s = b) : (a + 2 ^ s) % 2 ^ s = b := by rw [Nat.add_mod_right, h]

theorem meas {m a q : Nat} {z : Int} (hz : z = ((a + q : Nat) : Int)) (h : a < m) (hq : 0 < q) : m - (intOf (.int .i64 z)).toNat < m - (intOf (.int .i64 (a : Int))).toNat := by
  subst hz; simp [intOf]; omega
end Go.Proofs.YtnkninjdpgpkmaaDoor.Pc
namespace Go.Proofs.YtnkninjdpgpkmaaDoor.Pd
open Go.RowKit Go.Proofs.YtnkninjdpgpkmaaDoor.Vm Go.Proofs.YtnkninjdpgpkmaaDoor.Bm Go.Proofs.YtnkninjdpgpkmaaDoor.Bw Go.Proofs.YtnkninjdpgpkmaaDoor.Br Go.Proofs.YtnkninjdpgpkmaaDoor.Bs Go.Proofs.YtnkninjdpgpkmaaDoor.Na Go.Proofs.YtnkninjdpgpkmaaDoor.Ne Go.Proofs.YtnkninjdpgpkmaaDoor.Pt Go.Proofs.YtnkninjdpgpkmaaDoor.Pc

/-- A second table, as a slice. -/
def sl (b : Nat) : Value := .slice (some ⟨b, 0, none⟩) 64 64
section
variable {base : Nat} {w w' : World} {g n : Nat} {F : Nat → Nat × Nat} {v : Value} {bs : List Nat} {G : Nat → Nat → Nat × Nat}
end

end Go.Proofs.YtnkninjdpgpkmaaDoor.Pd
namespace Go.Proofs.YtnkninjdpgpkmaaDoor.Pz
open Go.RowKit Go.Proofs.YtnkninjdpgpkmaaDoor.Pc

/-- A table's zero cells. -/
def tz : Array Value := (((Array.replicate 1027 (Value.int .u16 0)).setIfInBounds 0 (.pointer none)).setIfInBounds 1 (.int .i64 0)).setIfInBounds 1026 (.slice none 0 0)
end Go.Proofs.YtnkninjdpgpkmaaDoor.Pz
namespace Go.Proofs.YtnkninjdpgpkmaaDoor.Py
open Go.RowKit Go.Proofs.YtnkninjdpgpkmaaDoor.Pc Go.Proofs.YtnkninjdpgpkmaaDoor.Pz

theorem rep_eq (N : Nat) (c : Value) : Array.replicate N c = cellsN N (fun _ => c) := by
  apply Array.ext
  · simp [cellsN]
  · intro i h1 h2
    simp [cellsN]
theorem tz_eq : tz = tcells (.pointer none) 0 (fun _ => (0, 0)) (.slice none 0 0) := by
  unfold tz tcells
  rw [rep_eq, cellsN_set, cellsN_set, cellsN_set]
  refine cellsN_congr fun i hi => ?_
  unfold tcell
  by_cases e2 : i = 1026
  · rw [if_pos e2, if_neg (by omega), if_neg (by omega), if_pos e2]
  · rw [if_neg e2]
    by_cases e1 : i = 1
    · rw [if_pos e1, if_neg (by omega), if_pos e1]; rfl
    · rw [if_neg e1]
      by_cases e0 : i = 0
      · rw [if_pos e0, if_pos e0]
      · rw [if_neg e0, if_neg e0, if_neg e1, if_neg e2]
        unfold pr; split <;> rfl
theorem t_set1 (me : Value) (n m : Nat) (F : Nat → Nat × Nat) (v : Value) : (tcells me n F v).setIfInBounds 1 (.int .i64 m) = tcells me m F v := by
  unfold tcells
  rw [cellsN_set]
  refine cellsN_congr fun i hi => ?_
  unfold tcell
  by_cases e : i = 1
  · rw [if_pos e, if_neg (by omega), if_pos e]
  · rw [if_neg e]
    by_cases e3 : i = 0
    · rw [if_pos e3, if_pos e3]
    · rw [if_neg e3, if_neg e3, if_neg e, if_neg e]
theorem t_size (me : Value) (n : Nat) (F : Nat → Nat × Nat) (v : Value) : (tcells me n F v).size = 1027 := cellsN_size _ _
end Go.Proofs.YtnkninjdpgpkmaaDoor.Py
