/-
  The cells of a table of prefix codes, and fill, which sets every cell whose lowest bits are these.
  Conditions: as each theorem says.
-/
import Derived.Test.YtgbdecnaamlekaaDoorPt
import Derived.Test.YtgbdecnaamlekaaDoorNe
import Derived.Test.YtgbdecnaamlekaaDoorBs
namespace Go.Proofs.YtgbdecnaamlekaaDoor.Pc
open Go.RowKit Go.Proofs.YtgbdecnaamlekaaDoor.Vm Go.Proofs.YtgbdecnaamlekaaDoor.Bm Go.Proofs.YtgbdecnaamlekaaDoor.Bw Go.Proofs.YtgbdecnaamlekaaDoor.Bs Go.Proofs.YtgbdecnaamlekaaDoor.Na Go.Proofs.YtgbdecnaamlekaaDoor.Ne

/-- Cells by their places. -/
def cellsN (n : Nat) (h : Nat → Value) : Array Value := Array.ofFn (n := n) fun i => h i.val
theorem cellsN_size (n : Nat) (h : Nat → Value) : (cellsN n h).size = n := by simp [cellsN]
theorem cellsN_get {n : Nat} (h : Nat → Value) {i : Nat} (hi : i < n) : (cellsN n h)[i]? = some (h i) := by simp [cellsN, hi]
theorem cellsN_congr {n : Nat} {h h' : Nat → Value} (e : ∀ i, i < n → h i = h' i) : cellsN n h = cellsN n h' := by
  unfold cellsN; congr 1; funext i; exact e _ i.isLt
theorem cellsN_set (n : Nat) (h : Nat → Value) (k : Nat) (v : Value) : (cellsN n h).setIfInBounds k v = cellsN n (fun i => if i = k then v else h i) := by
  apply Array.ext
  · simp [cellsN]
  · intro i h1 h2
    have hi : i < (cellsN n h).size := by simpa using h1
    rw [Array.getElem_setIfInBounds hi]
    by_cases e : k = i
    · subst e; simp [cellsN]
    · rw [if_neg e]; simp [cellsN, show ¬ i = k by omega]
/-- Cell i of a row of pairs. -/
def pr (F : Nat → Nat × Nat) (i : Nat) : Value := .int .u16 (if i % 2 = 0 then ((F (i / 2)).1 : Int) else ((F (i / 2)).2 : Int))
/-- A second table's cells. -/
def scells (F : Nat → Nat × Nat) : Array Value := cellsN 128 (pr F)
/-- A table's cells. -/
def tcell (me : Value) (n : Nat) (F : Nat → Nat × Nat) (v : Value) (i : Nat) : Value := if i = 0 then me else if i = 1 then .int .i64 n else if i = 1026 then v else pr F (i - 2)
def tcells (me : Value) (n : Nat) (F : Nat → Nat × Nat) (v : Value) : Array Value := cellsN 1027 (tcell me n F v)
/-- V's cells from off on are m pairs. -/
structure pairs (V : (Nat → Nat × Nat) → Array Value) (off m : Nat) : Prop where
  c1 : ∀ F j, j < m → (V F)[off + j * 2]? = some (.int .u16 (F j).1)
  c2 : ∀ F j, j < m → (V F)[off + j * 2 + 1]? = some (.int .u16 (F j).2)
  set : ∀ F j (a b : Nat), j < m → ((V F).setIfInBounds (off + j * 2) (.int .u16 a)).setIfInBounds (off + j * 2 + 1) (.int .u16 b) = V (fun q => if q = j then (a, b) else F q)
  congr : ∀ F F', (∀ j, j < m → F j = F' j) → V F = V F'
theorem pr_even (F : Nat → Nat × Nat) (j : Nat) : pr F (2 * j) = .int .u16 (F j).1 := by
  unfold pr; rw [if_pos (by omega), show 2 * j / 2 = j by omega]
theorem pr_odd (F : Nat → Nat × Nat) (j : Nat) : pr F (2 * j + 1) = .int .u16 (F j).2 := by
  unfold pr; rw [if_neg (by omega), show (2 * j + 1) / 2 = j by omega]
theorem pr_congr {F F' : Nat → Nat × Nat} {i : Nat} (h : F (i / 2) = F' (i / 2)) : pr F i = pr F' i := by unfold pr; rw [h]
theorem pr_set (F : Nat → Nat × Nat) (j a b i : Nat) : pr (fun q => if q = j then (a, b) else F q) i = if i = 2 * j then .int .u16 a else if i = 2 * j + 1 then .int .u16 b else pr F i := by
  by_cases h1 : i = 2 * j
  · rw [if_pos h1, h1, pr_even, if_pos rfl]
  · rw [if_neg h1]
    by_cases h2 : i = 2 * j + 1
    · rw [if_pos h2, h2, pr_odd, if_pos rfl]
    · rw [if_neg h2]
      exact pr_congr (if_neg (by omega))
theorem tcell_pr {me : Value} {n : Nat} {F : Nat → Nat × Nat} {v : Value} {i : Nat} (h : 2 ≤ i) (h2 : i < 1026) : tcell me n F v i = pr F (i - 2) := by
  unfold tcell; rw [if_neg (by omega), if_neg (by omega), if_neg (by omega)]
theorem tcell_same {me : Value} {n : Nat} {F F' : Nat → Nat × Nat} {v : Value} {i : Nat} (h : i = 0 ∨ i = 1 ∨ i = 1026 ∨ pr F (i - 2) = pr F' (i - 2)) : tcell me n F v i = tcell me n F' v i := by
  unfold tcell
  by_cases e3 : i = 0
  · rw [if_pos e3, if_pos e3]
  · rw [if_neg e3, if_neg e3]
    by_cases e4 : i = 1
    · rw [if_pos e4, if_pos e4]
    · rw [if_neg e4, if_neg e4]
      by_cases e5 : i = 1026
      · rw [if_pos e5, if_pos e5]
      · rw [if_neg e5, if_neg e5]
        rcases h with h | h | h | h
        · exact absurd h e3
        · exact absurd h e4
        · exact absurd h e5
        · exact h
theorem pairs_s : pairs scells 0 64 := by
  refine ⟨fun F j h => ?_, fun F j h => ?_, fun F j a b h => ?_, fun F F' h => cellsN_congr fun i hi => pr_congr (h _ (by omega))⟩
  all_goals try rw [Nat.mul_comm j 2]
  · rw [Nat.zero_add, ← pr_even]; exact cellsN_get _ (by omega)
  · rw [Nat.zero_add, ← pr_odd]; exact cellsN_get _ (by omega)
  · unfold scells
    rw [cellsN_set, cellsN_set, Nat.zero_add]
    refine cellsN_congr fun i hi => ?_
    rw [pr_set]
    by_cases e1 : i = 2 * j
    · rw [if_neg (by omega), if_pos e1, if_pos e1]
    · by_cases e2 : i = 2 * j + 1
      · rw [if_pos e2, if_neg e1, if_pos e2]
      · rw [if_neg e2, if_neg e1, if_neg e1, if_neg e2]
theorem pairs_t (me : Value) (n : Nat) (v : Value) : pairs (fun F => tcells me n F v) 2 512 := by
  refine ⟨fun F j h => ?_, fun F j h => ?_, fun F j a b h => ?_, fun F F' h => cellsN_congr fun i hi => tcell_same ?_⟩
  all_goals try rw [Nat.mul_comm j 2]
  · show (tcells me n F v)[2 + 2 * j]? = _
    rw [tcells, cellsN_get _ (by omega), tcell_pr (by omega) (by omega), show 2 + 2 * j - 2 = 2 * j by omega, pr_even]
  · show (tcells me n F v)[2 + 2 * j + 1]? = _
    rw [tcells, cellsN_get _ (by omega), tcell_pr (by omega) (by omega), show 2 + 2 * j + 1 - 2 = 2 * j + 1 by omega, pr_odd]
  · show ((tcells me n F v).setIfInBounds _ _).setIfInBounds _ _ = tcells me n _ v
    unfold tcells
    rw [cellsN_set, cellsN_set]
    refine cellsN_congr fun i hi => ?_
    by_cases e1 : i = 2 + 2 * j
    · rw [if_neg (by omega), if_pos e1, tcell_pr (by omega) (by omega), pr_set, if_pos (by omega)]
    · by_cases e2 : i = 2 + 2 * j + 1
      · rw [if_pos e2, tcell_pr (by omega) (by omega), pr_set, if_neg (by omega), if_pos (by omega)]
      · rw [if_neg e2, if_neg e1]
        refine tcell_same ?_
        by_cases e3 : i = 0
        · exact .inl e3
        · by_cases e4 : i = 1
          · exact .inr (.inl e4)
          · exact .inr (.inr (.inr (by rw [pr_set, if_neg (by omega), if_neg (by omega)])))
  · by_cases e3 : i = 0
    · exact .inl e3
    · by_cases e4 : i = 1
      · exact .inr (.inl e4)
      · by_cases e5 : i = 1026
        · exact .inr (.inr (.inl e5))
        · exact .inr (.inr (.inr (pr_congr (h _ (by omega)))))
theorem t_c0 (me : Value) (n : Nat) (F : Nat → Nat × Nat) (v : Value) : (tcells me n F v)[0]? = some me := cellsN_get _ (by omega)
theorem t_c1 (me : Value) (n : Nat) (F : Nat → Nat × Nat) (v : Value) : (tcells me n F v)[1]? = some (.int .i64 n) := cellsN_get _ (by omega)
theorem t_cl (me : Value) (n : Nat) (F : Nat → Nat × Nat) (v : Value) : (tcells me n F v)[1026]? = some v := cellsN_get _ (by omega)
theorem t_set0 (me me' : Value) (n : Nat) (F : Nat → Nat × Nat) (v : Value) : (tcells me n F v).setIfInBounds 0 me' = tcells me' n F v := by
  unfold tcells
  rw [cellsN_set]
  refine cellsN_congr fun i hi => ?_
  unfold tcell
  by_cases e : i = 0
  · rw [if_pos e, if_pos e]
  · rw [if_neg e, if_neg e, if_neg e]
theorem t_setl (me : Value) (n : Nat) (F : Nat → Nat × Nat) (v v' : Value) : (tcells me n F v).setIfInBounds 1026 v' = tcells me n F v' := by
  unfold tcells
  rw [cellsN_set]
  refine cellsN_congr fun i hi => ?_
  unfold tcell
  by_cases e : i = 1026
  · rw [if_pos e, if_neg (by omega), if_neg (by omega), if_pos e]
  · rw [if_neg e]
    by_cases e3 : i = 0
    · rw [if_pos e3, if_pos e3]
    · rw [if_neg e3, if_neg e3]
      by_cases e4 : i = 1
      · rw [if_pos e4, if_pos e4]
      · rw [if_neg e4, if_neg e4, if_neg e, if_neg e]

/-- The cells behind fill. -/
def filled (F : Nat → Nat × Nat) (s b : Nat) (c : Nat × Nat) : Nat → Nat × Nat := fun j => if j % 2 ^ s = b then c else F j
def upto (F : Nat → Nat × Nat) (s b : Nat) (c : Nat × Nat) (a : Nat) : Nat → Nat × Nat := fun j => if j % 2 ^ s = b ∧ j < a then c else F j

theorem upto_start (F : Nat → Nat × Nat) {s b : Nat} (c : Nat × Nat) (_hb : b < 2 ^ s) : upto F s b c b = F := by
  funext j
  unfold upto
  rw [if_neg]
  rintro ⟨h1, h2⟩
  have := Nat.mod_le j (2 ^ s)
  rw [Nat.mod_eq_of_lt (by omega)] at h1
  omega
theorem upto_next (F : Nat → Nat × Nat) {s b a : Nat} (c : Nat × Nat) (ha : a % 2 ^ s = b) : (fun q => if q = a then c else upto F s b c a q) = upto F s b c (a + 2 ^ s) := by
  funext j
  unfold upto
  have hp := Nat.two_pow_pos s
  by_cases e : j = a
  · rw [if_pos e, if_pos ⟨by rw [e]; exact ha, by omega⟩]
  · rw [if_neg e]
    by_cases h1 : j % 2 ^ s = b
    · by_cases h2 : j < a
      · rw [if_pos ⟨h1, h2⟩, if_pos ⟨h1, by omega⟩]
      · rw [if_neg (fun h => h2 h.2), if_neg]
        rintro ⟨_, h3⟩
        have e1 := Nat.mod_add_div j (2 ^ s)
        have e2 := Nat.mod_add_div a (2 ^ s)
        rw [h1] at e1
        rw [ha] at e2
        have h4 : 2 ^ s * (a / 2 ^ s) < 2 ^ s * (j / 2 ^ s) := by omega
        have h5 : 2 ^ s * (j / 2 ^ s) < 2 ^ s * (a / 2 ^ s + 1) := by rw [Nat.mul_add]; omega
        have h6 := Nat.lt_of_mul_lt_mul_left h4
        have h7 := Nat.lt_of_mul_lt_mul_left h5
        omega
    · rw [if_neg (fun h => h1 h.1), if_neg (fun h => h1 h.1)]
theorem upto_end (F : Nat → Nat × Nat) {s b a m : Nat} (c : Nat × Nat) (ha : m ≤ a) {j : Nat} (hj : j < m) : upto F s b c a j = filled F s b c j := by
  unfold upto filled
  by_cases h : j % 2 ^ s = b
  · rw [if_pos h, if_pos ⟨h, by omega⟩]
  · rw [if_neg h, if_neg (fun h' => h h'.1)]
theorem mod_next {a s b : Nat} (h : a % 2 ^ s = b) : (a + 2 ^ s) % 2 ^ s = b := by rw [Nat.add_mod_right, h]

theorem meas {m a q : Nat} {z : Int} (hz : z = ((a + q : Nat) : Int)) (h : a < m) (hq : 0 < q) : m - (intOf (.int .i64 z)).toNat < m - (intOf (.int .i64 (a : Int))).toNat := by
  subst hz; simp [intOf]; omega
set_option maxRecDepth 100000 in
theorem fill_any {V : (Nat → Nat × Nat) → Array Value} {off m : Nat} (HV : Hid (pairs V off m)) (hm : m ≤ 512) {w : World} {g : Nat} {t : TypeId} {F : Nat → Nat × Nat} (HB : Hid (Blk w g t (V F))) (s b x y : Nat) (hs : s ≤ 15) (hb : b < 2 ^ s) :
    Calls Tryd.prog 107 #[.slice (some ⟨g, off, none⟩) m m, .int .i64 b, .int .i64 s, .agg #[.int .u16 x, .int .u16 y]] w fun e w' => e = .returned (.tuple #[]) ∧ Blk w' g t (V (filled F s b (x, y))) ∧ Only (At g) w w' := by
  have hp : 2 ^ s ≤ 32768 := (Nat.pow_le_pow_right (by omega) hs : 2 ^ s ≤ 2 ^ 15)
  have hp0 := Nat.two_pow_pos s
  have HBb := Lib.hid hb
  have HP : Hid (((2 : Int) ^ s) = ((2 ^ s : Nat) : Int)) := Lib.hid (by simp)
  have HU := Lib.hid (upto_start F (x, y) hb)
  have HBM : Hid (b % 2 ^ s = b) := Lib.hid (Nat.mod_eq_of_lt hb)
  obtain ⟨q, hq⟩ : ∃ q, q = 2 ^ s := ⟨_, rfl⟩
  have HQ := Lib.hid hq
  rw [← hq] at HP hp hp0 hb
  clear hq
  go_enter Tryd.func107, Tryd.ntmps107
  go_wp2
  go_loopw [8] (fun z wr => ∃ a : Nat, z = .int .i64 a ∧ a < m + q ∧ Hid (a % 2 ^ s = b) ∧ Hid (Blk wr g t (V (upto F s b (x, y) a))) ∧ Hid (Blk wr w.heap.size 124 #[.int .u16 x, .int .u16 y]) ∧ Hid (Only (At g) w wr)) (fun z _ => m - (intOf z).toNat)
  case atStart => exact ⟨b, rfl, by omega, HBM, Lib.hid (by rw [HU.out]; exact HB.out.below (below_alloc _ _)), Lib.hid (Blk.fresh w _ _), Lib.hid (Only.of_below (below_alloc _ _))⟩
  case round =>
    obtain ⟨a, rfl, ha, HA, HG, HX, HO⟩ := hrel
    have hgw := HB.out.lt
    by_cases ham : a < m
    · have x0 := HX.out.cell 0
      have x1 := HX.out.cell 1
      have c1 := (HG.out.cell (off + a * 2)).trans (HV.out.c1 _ a ham)
      have c2 := (HG.out.cell (off + a * 2 + 1)).trans (HV.out.c2 _ a ham)
      have f1 := HG.out.frozen (off + a * 2)
      have f2 := HG.out.frozen (off + a * 2 + 1)
      have HWr : Hid (wrap64 ((a : Int) + wrap64 (2 ^ s)) = ((a + q : Nat) : Int)) := Lib.hid (by rw [HQ.out]; exact wrap_one a s (by rw [← HQ.out]; omega))
      go_wp2
      go_roundw
      case rel =>
        refine ⟨a + q, ?_, by omega, Lib.hid (by rw [HQ.out]; exact mod_next HA.out), Lib.hid ?_, Lib.hid ?_, Lib.hid ?_⟩
        · exact congrArg (Value.int .i64) HWr.out
        · have h := (HG.out.store (off + a * 2) (.int .u16 x)).store (off + a * 2 + 1) (.int .u16 y)
          rw [HV.out.set _ a x y ham, upto_next F (x, y) HA.out, ← HQ.out] at h
          exact h
        · exact (HX.out.apartStore (p := ⟨g, _, none⟩) (by show w.heap.size ≠ g; omega)).apartStore (p := ⟨g, _, none⟩) (by show w.heap.size ≠ g; omega)
        · exact (HO.out.store (p := ⟨g, _, none⟩) (.inl (At.self g)) _).store (p := ⟨g, _, none⟩) (.inl (At.self g)) _
      case measure => exact meas HWr.out ham hp0
    · have HE : Hid (V (upto F s b (x, y) a) = V (filled F s b (x, y))) := Lib.hid (HV.out.congr _ _ (fun j hj => upto_end F (x, y) (by omega) hj))
      go_wp2
      go_end0
      exact ⟨rfl, by rw [← HE.out]; exact HG.out, HO.out⟩
end Go.Proofs.YtgbdecnaamlekaaDoor.Pc
