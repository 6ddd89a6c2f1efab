/-
  The cells of a table of prefix codes, and fill, which sets every cell whose lowest bits are these.
  A table of prefix codes in memory; isNone, Symbols and find, called with a table that New made: their results; nothing that was there has changed.
  The zero value of a table.
  A table that is built with its number of symbols.
  Conditions: as each theorem says.
-/
import Derived.Test.YtnkninjdpgpkmaaGreatDoorBai
import Derived.Test.YtnkninjdpgpkmaaGreatDoorBaf
import Derived.Test.YtnkninjdpgpkmaaGreatDoorBay
import Derived.StillTailTactics
import Derived.Deep.QuietTactic
import Derived.BigQuiet
import Derived.Laws.Tables
namespace Go.Proofs.YtnkninjdpgpkmaaGreatDoor.Pc
open Go.RowKit Go.Proofs.YtnkninjdpgpkmaaGreatDoor.Vm Go.Proofs.YtnkninjdpgpkmaaGreatDoor.Bm Go.Proofs.YtnkninjdpgpkmaaGreatDoor.Bw Go.Proofs.YtnkninjdpgpkmaaGreatDoor.Bs Go.Proofs.YtnkninjdpgpkmaaGreatDoor.Na Go.Proofs.YtnkninjdpgpkmaaGreatDoor.Ne

/-- Cells by their places. -/
def cellsN (n : Nat) (h : Nat → Value) : Array Value := Array.ofFn (n := n) fun i => h i.val
theorem cellsN_size (n : Nat) (h : Nat → Value) : (cellsN n h).size = n := by simp [cellsN]
theorem cellsN_get {n : Nat} (h : Nat → Value) {i : Nat} (hi : i < n) : (cellsN n h)[i]? = some (h i) := by simp [cellsN, hi]
theorem cellsN_congr {n : Nat} {h h' : Nat → Value} (e : ∀ i, i < n → h i = h' i) : cellsN n h = cellsN n h' := by
  unfold cellsN; congr 1; funext i; exact e _ i.isLt
theorem cellsN_set (n : Nat) (h : Nat → Value) (k : Nat) (v : Value) : (cellsN n h).setIfInBounds k v = cellsN n (fun i => if i = k then v else h i) := by
  apply Array.ext
  · simp [cellsN]
  · intro i h1 h2
    have hi : i < (cellsN n h).size := by simpa using h1
    rw [Array.getElem_setIfInBounds hi]
    by_cases e : k = i
    · subst e; simp [cellsN]
    · rw [if_neg e]; simp [cellsN, show ¬ i = k by omega]
/-- Cell i of a row of pairs. -/
def pr (F : Nat → Nat × Nat) (i : Nat) : Value := .int .u16 (if i % 2 = 0 then ((F (i / 2)).1 : Int) else ((F (i / 2)).2 : Int))
/-- A second table's cells. -/
def scells (F : Nat → Nat × Nat) : Array Value := cellsN 128 (pr F)
/-- A table's cells. -/
def tcell (me : Value) (n : Nat) (F : Nat → Nat × Nat) (v : Value) (i : Nat) : Value := if i = 0 then me else if i = 1 then .int .i64 n else if i = 1026 then v else pr F (i - 2)
def tcells (me : Value) (n : Nat) (F : Nat → Nat × Nat) (v : Value) : Array Value := cellsN 1027 (tcell me n F v)
/-- V's cells from off on are m pairs. -/
structure pairs (V : (Nat → Nat × Nat) → Array Value) (off m : Nat) : Prop where
  c1 : ∀ F j, j < m → (V F)[off + j * 2]? = some (.int .u16 (F j).1)
  c2 : ∀ F j, j < m → (V F)[off + j * 2 + 1]? = some (.int .u16 (F j).2)
  set : ∀ F j (a b : Nat), j < m → ((V F).setIfInBounds (off + j * 2) (.int .u16 a)).setIfInBounds (off + j * 2 + 1) (.int .u16 b) = V (fun q => if q = j then (a, b) else F q)
  congr : ∀ F F', (∀ j, j < m → F j = F' j) → V F = V F'
theorem pr_even (F : Nat → Nat × Nat) (j : Nat) : pr F (2 * j) = .int .u16 (F j).1 := by
  unfold pr; rw [if_pos (by omega), show 2 * j / 2 = j by omega]
theorem pr_odd (F : Nat → Nat × Nat) (j : Nat) : pr F (2 * j + 1) = .int .u16 (F j).2 := by
  unfold pr; rw [if_neg (by omega), show (2 * j + 1) / 2 = j by omega]
theorem pr_congr {F F' : Nat → Nat × Nat} {i : Nat} (h : F (i / 2) = F' (i / 2)) : pr F i = pr F' i := by unfold pr; rw [h]
theorem pr_set (F : Nat → Nat × Nat) (j a b i : Nat) : pr (fun q => if q = j then (a, b) else F q) i = if i = 2 * j then .int .u16 a else if i = 2 * j + 1 then .int .u16 b else pr F i := by
  by_cases h1 : i = 2 * j
  · rw [if_pos h1, h1, pr_even, if_pos rfl]
  · rw [if_neg h1]
    by_cases h2 : i = 2 * j + 1
    · rw [if_pos h2, h2, pr_odd, if_pos rfl]
    · rw [if_neg h2]
      exact pr_congr (if_neg (by omega))
theorem tcell_pr {me : Value} {n : Nat} {F : Nat → Nat × Nat} {v : Value} {i : Nat} (h : 2 ≤ i) (h2 : i < 1026) : tcell me n F v i = pr F (i - 2) := by
  unfold tcell; rw [if_neg (by omega), if_neg (by omega), if_neg (by omega)]
theorem tcell_same {me : Value} {n : Nat} {F F' : Nat → Nat × Nat} {v : Value} {i : Nat} (h : i = 0 ∨ i = 1 ∨ i = 1026 ∨ pr F (i - 2) = pr F' (i - 2)) : tcell me n F v i = tcell me n F' v i := by
  unfold tcell
  by_cases e3 : i = 0
  · rw [if_pos e3, if_pos e3]
  · rw [if_neg e3, if_neg e3]
    by_cases e4 : i = 1
    · rw [if_pos e4, if_pos e4]
    · rw [if_neg e4, if_neg e4]
      by_cases e5 : i = 1026
      · rw [if_pos e5, if_pos e5]
      · rw [if_neg e5, if_neg e5]
        rcases h with h | h | h | h
        · exact absurd h e3
        · exact absurd h e4
        · exact absurd h e5
        · exact h
theorem pairs_s : pairs scells 0 64 := by
  refine ⟨fun F j h => ?_, fun F j h => ?_, fun F j a b h => ?_, fun F F' h => cellsN_congr fun i hi => pr_congr (h _ (by omega))⟩
  all_goals try rw [Nat.mul_comm j 2]
  · rw [Nat.zero_add, ← pr_even]; exact cellsN_get _ (by omega)
  · rw [Nat.zero_add, ← pr_odd]; exact cellsN_get _ (by omega)
  · unfold scells
    rw [cellsN_set, cellsN_set, Nat.zero_add]
    refine cellsN_congr fun i hi => ?_
    rw [pr_set]
    by_cases e1 : i = 2 * j
    · rw [if_neg (by omega), if_pos e1, if_pos e1]
    · by_cases e2 : i = 2 * j + 1
      · rw [if_pos e2, if_neg e1, if_pos e2]
      · rw [if_neg e2, if_neg e1, if_neg e1, if_neg e2]
theorem pairs_t (me : Value) (n : Nat) (v : Value) : pairs (fun F => tcells me n F v) 2 512 := by
  refine ⟨fun F j h => ?_, fun F j h => ?_, fun F j a b h => ?_, fun F F' h => cellsN_congr fun i hi => tcell_same ?_⟩
  all_goals try rw [Nat.mul_comm j 2]
  · show (tcells me n F v)[2 + 2 * j]? = _
    rw [tcells, cellsN_get _ (by omega), tcell_pr (by omega) (by omega), show 2 + 2 * j - 2 = 2 * j by omega, pr_even]
  · show (tcells me n F v)[2 + 2 * j + 1]? = _
    rw [tcells, cellsN_get _ (by omega), tcell_pr (by omega) (by omega), show 2 + 2 * j + 1 - 2 = 2 * j + 1 by omega, pr_odd]
  · show ((tcells me n F v).setIfInBounds _ _).setIfInBounds _ _ = tcells me n _ v
    unfold tcells
    rw [cellsN_set, cellsN_set]
    refine cellsN_congr fun i hi => ?_
    by_cases e1 : i = 2 + 2 * j
    · rw [if_neg (by omega), if_pos e1, tcell_pr (by omega) (by omega), pr_set, if_pos (by omega)]
    · by_cases e2 : i = 2 + 2 * j + 1
      · rw [if_pos e2, tcell_pr (by omega) (by omega), pr_set, if_neg (by omega), if_pos (by omega)]
      · rw [if_neg e2, if_neg e1]
        refine tcell_same ?_
        by_cases e3 : i = 0
        · exact .inl e3
        · by_cases e4 : i = 1
          · exact .inr (.inl e4)
          · exact .inr (.inr (.inr (by rw [pr_set, if_neg (by omega), if_neg (by omega)])))
  · by_cases e3 : i = 0
    · exact .inl e3
    · by_cases e4 : i = 1
      · exact .inr (.inl e4)
      · by_cases e5 : i = 1026
        · exact .inr (.inr (.inl e5))
        · exact .inr (.inr (.inr (pr_congr (h _ (by omega)))))
theorem t_c0 (me : Value) (n : Nat) (F : Nat → Nat × Nat) (v : Value) : (tcells me n F v)[0]? = some me := cellsN_get _ (by omega)
theorem t_c1 (me : Value) (n : Nat) (F : Nat → Nat × Nat) (v : Value) : (tcells me n F v)[1]? = some (.int .i64 n) := cellsN_get _ (by omega)
theorem t_cl (me : Value) (n : Nat) (F : Nat → Nat × Nat) (v : Value) : (tcells me n F v)[1026]? = some v := cellsN_get _ (by omega)
theorem t_set0 (me me' : Value) (n : Nat) (F : Nat → Nat × Nat) (v : Value) : (tcells me n F v).setIfInBounds 0 me' = tcells me' n F v := by
  unfold tcells
  rw [cellsN_set]
  refine cellsN_congr fun i hi => ?_
  unfold tcell
  by_cases e : i = 0
  · rw [if_pos e, if_pos e]
  · rw [if_neg e, if_neg e, if_neg e]
theorem t_setl (me : Value) (n : Nat) (F : Nat → Nat × Nat) (v v' : Value) : (tcells me n F v).setIfInBounds 1026 v' = tcells me n F v' := by
  unfold tcells
  rw [cellsN_set]
  refine cellsN_congr fun i hi => ?_
  unfold tcell
  by_cases e : i = 1026
  · rw [if_pos e, if_neg (by omega), if_neg (by omega), if_pos e]
  · rw [if_neg e]
    by_cases e3 : i = 0
    · rw [if_pos e3, if_pos e3]
    · rw [if_neg e3, if_neg e3]
      by_cases e4 : i = 1
      · rw [if_pos e4, if_pos e4]
      · rw [if_neg e4, if_neg e4, if_neg e, if_neg e]

/-- The cells behind fill. -/
def filled (F : Nat → Nat × Nat) (s b : Nat) (c : Nat × Nat) : Nat → Nat × Nat := fun j => if j % 2 ^ s = b then c else F j
def upto (F : Nat → Nat × Nat) (s b : Nat) (c : Nat × Nat) (a : Nat) : Nat → Nat × Nat := fun j => if j % 2 ^ s = b ∧ j < a then c else F j

theorem upto_start (F : Nat → Nat × Nat) {s b : Nat} (c : Nat × Nat) (_hb : b < 2 ^ s) : upto F s b c b = F := by
  funext j
  unfold upto
  rw [if_neg]
  rintro ⟨h1, h2⟩
  have := Nat.mod_le j (2 ^ s)
  rw [Nat.mod_eq_of_lt (by omega)] at h1
  omega
theorem upto_next (F : Nat → Nat × Nat) {s b a : Nat} (c : Nat × Nat) (ha : a % 2 ^ s = b) : (fun q => if q = a then c else upto F s b c a q) = upto F s b c (a + 2 ^ s) := by
  funext j
  unfold upto
  have hp := Nat.two_pow_pos s
  by_cases e : j = a
  · rw [if_pos e, if_pos ⟨by rw [e]; exact ha, by omega⟩]
  · rw [if_neg e]
    by_cases h1 : j % 2 ^ s = b
    · by_cases h2 : j < a
      · rw [if_pos ⟨h1, h2⟩, if_pos ⟨h1, by omega⟩]
      · rw [if_neg (fun h => h2 h.2), if_neg]
        rintro ⟨_, h3⟩
        have e1 := Nat.mod_add_div j (2 ^ s)
        have e2 := Nat.mod_add_div a (2 ^ s)
        rw [h1] at e1
        rw [ha] at e2
        have h4 : 2 ^ s * (a / 2 ^ s) < 2 ^ s * (j / 2 ^ s) := by omega
        have h5 : 2 ^ s * (j / 2 ^ s) < 2 ^ s * (a / 2 ^ s + 1) := by rw [Nat.mul_add]; omega
        have h6 := Nat.lt_of_mul_lt_mul_left h4
        have h7 := Nat.lt_of_mul_lt_mul_left h5
        omega
    · rw [if_neg (fun h => h1 h.1), if_neg (fun h => h1 h.1)]
theorem upto_end (F : Nat → Nat × Nat) {s b a m : Nat} (c : Nat × Nat) (ha : m ≤ a) {j : Nat} (hj : j < m) : upto F s b c a j = filled F s b c j := by
  unfold upto filled
  by_cases h : j % 2 ^ s = b
  · rw [if_pos h, if_pos ⟨h, by omega⟩]
  · rw [if_neg h, if_neg (fun h' => h h'.1)]
theorem mod_next {a s b : Nat} (h : a % 2 ^ s = b) : (a + 2 ^ s) % 2 ^ s = b := by rw [Nat.add_mod_right, h]

theorem meas {m a q : Nat} {z : Int} (hz : z = ((a + q : Nat) : Int)) (h : a < m) (hq : 0 < q) : m - (intOf (.int .i64 z)).toNat < m - (intOf (.int .i64 (a : Int))).toNat := by
  subst hz; simp [intOf]; omega
set_option maxRecDepth 100000 in
theorem fill_any {V : (Nat → Nat × Nat) → Array Value} {off m : Nat} (HV : Hid (pairs V off m)) (hm : m ≤ 512) {w : World} {g : Nat} {t : TypeId} {F : Nat → Nat × Nat} (HB : Hid (Blk w g t (V F))) (s b x y : Nat) (hs : s ≤ 15) (hb : b < 2 ^ s) :
    Calls Tryz.prog 156 #[.slice (some ⟨g, off, none⟩) m m, .int .i64 b, .int .i64 s, .agg #[.int .u16 x, .int .u16 y]] w fun e w' => e = .returned (.tuple #[]) ∧ Blk w' g t (V (filled F s b (x, y))) ∧ Only (At g) w w' := by
  have hp : 2 ^ s ≤ 32768 := (Nat.pow_le_pow_right (by omega) hs : 2 ^ s ≤ 2 ^ 15)
  have hp0 := Nat.two_pow_pos s
  have HBb := Lib.hid hb
  have HP : Hid (((2 : Int) ^ s) = ((2 ^ s : Nat) : Int)) := Lib.hid (by simp)
  have HU := Lib.hid (upto_start F (x, y) hb)
  have HBM : Hid (b % 2 ^ s = b) := Lib.hid (Nat.mod_eq_of_lt hb)
  obtain ⟨q, hq⟩ : ∃ q, q = 2 ^ s := ⟨_, rfl⟩
  have HQ := Lib.hid hq
  rw [← hq] at HP hp hp0 hb
  clear hq
  go_enter Tryz.func156, Tryz.ntmps156
  go_wp2
  go_loopw [8] (fun z wr => ∃ a : Nat, z = .int .i64 a ∧ a < m + q ∧ Hid (a % 2 ^ s = b) ∧ Hid (Blk wr g t (V (upto F s b (x, y) a))) ∧ Hid (Blk wr w.heap.size 186 #[.int .u16 x, .int .u16 y]) ∧ Hid (Only (At g) w wr)) (fun z _ => m - (intOf z).toNat)
  case atStart => exact ⟨b, rfl, by omega, HBM, Lib.hid (by rw [HU.out]; exact HB.out.below (below_alloc _ _)), Lib.hid (Blk.fresh w _ _), Lib.hid (Only.of_below (below_alloc _ _))⟩
  case round =>
    obtain ⟨a, rfl, ha, HA, HG, HX, HO⟩ := hrel
    have hgw := HB.out.lt
    by_cases ham : a < m
    · have x0 := HX.out.cell 0
      have x1 := HX.out.cell 1
      have c1 := (HG.out.cell (off + a * 2)).trans (HV.out.c1 _ a ham)
      have c2 := (HG.out.cell (off + a * 2 + 1)).trans (HV.out.c2 _ a ham)
      have f1 := HG.out.frozen (off + a * 2)
      have f2 := HG.out.frozen (off + a * 2 + 1)
      have HWr : Hid (wrap64 ((a : Int) + wrap64 (2 ^ s)) = ((a + q : Nat) : Int)) := Lib.hid (by rw [HQ.out]; exact wrap_one a s (by rw [← HQ.out]; omega))
      go_wp2
      go_roundw
      case rel =>
        refine ⟨a + q, ?_, by omega, Lib.hid (by rw [HQ.out]; exact mod_next HA.out), Lib.hid ?_, Lib.hid ?_, Lib.hid ?_⟩
        · exact congrArg (Value.int .i64) HWr.out
        · have h := (HG.out.store (off + a * 2) (.int .u16 x)).store (off + a * 2 + 1) (.int .u16 y)
          rw [HV.out.set _ a x y ham, upto_next F (x, y) HA.out, ← HQ.out] at h
          exact h
        · exact (HX.out.apartStore (p := ⟨g, _, none⟩) (by show w.heap.size ≠ g; omega)).apartStore (p := ⟨g, _, none⟩) (by show w.heap.size ≠ g; omega)
        · exact (HO.out.store (p := ⟨g, _, none⟩) (.inl (At.self g)) _).store (p := ⟨g, _, none⟩) (.inl (At.self g)) _
      case measure => exact meas HWr.out ham hp0
    · have HE : Hid (V (upto F s b (x, y) a) = V (filled F s b (x, y))) := Lib.hid (HV.out.congr _ _ (fun j hj => upto_end F (x, y) (by omega) hj))
      go_wp2
      go_end0
      exact ⟨rfl, by rw [← HE.out]; exact HG.out, HO.out⟩
end Go.Proofs.YtnkninjdpgpkmaaGreatDoor.Pc
namespace Go.Proofs.YtnkninjdpgpkmaaGreatDoor.Pd
open Go.RowKit Go.Proofs.YtnkninjdpgpkmaaGreatDoor.Vm Go.Proofs.YtnkninjdpgpkmaaGreatDoor.Bm Go.Proofs.YtnkninjdpgpkmaaGreatDoor.Bw Go.Proofs.YtnkninjdpgpkmaaGreatDoor.Br Go.Proofs.YtnkninjdpgpkmaaGreatDoor.Bs Go.Proofs.YtnkninjdpgpkmaaGreatDoor.Na Go.Proofs.YtnkninjdpgpkmaaGreatDoor.Ne Go.Proofs.YtnkninjdpgpkmaaGreatDoor.Pt Go.Proofs.YtnkninjdpgpkmaaGreatDoor.Pc

/-- A second table, as a slice. -/
def sl (b : Nat) : Value := .slice (some ⟨b, 0, none⟩) 64 64
/-- A table lies at block g: its first table is F, its second ones are G, at the blocks bs. -/
structure tb (base : Nat) (w : World) (g n : Nat) (F : Nat → Nat × Nat) (v : Value) (bs : List Nat) (G : Nat → Nat → Nat × Nat) : Prop where
  b : Blk w g 190 (tcells (.pointer (some ⟨g, 0, none⟩)) n F v)
  o : w.ownsRow base 214 1 v bs.length (bs.map sl)
  s : ∀ i, i < bs.length → Blk w (bs.getD i 0) 186 (scells (G i))
  d : ∀ i j, i < bs.length → j < bs.length → bs.getD i 0 = bs.getD j 0 → i = j
  lo : ∀ i, i < bs.length → base ≤ bs.getD i 0
  g0 : base ≤ g

section
variable {base : Nat} {w w' : World} {g n : Nat} {F : Nat → Nat × Nat} {v : Value} {bs : List Nat} {G : Nat → Nat → Nat × Nat}
theorem tb.only {S : Nat → Prop} (h : tb base w g n F v bs G) (k : Only S w w') (hg : ¬ S g) (hv : ∀ i, v.ownBlock = some i → ¬ S i) (hs : ∀ i, i < bs.length → ¬ S (bs.getD i 0)) : tb base w' g n F v bs G :=
  ⟨h.b.only k hg, own_only h.o k hv, fun i hi => (h.s i hi).only k (hs i hi), h.d, h.lo, h.g0⟩
theorem tb.below (h : tb base w g n F v bs G) (k : Below w.heap.size w w') : tb base w' g n F v bs G :=
  h.only (Only.of_below (S := fun _ => False) k) (fun h => h) (fun _ _ h => h) (fun _ _ h => h)
theorem tb.draws (h : tb base w g n F v bs G) (m : Nat) : tb base (w.drewN m) g n F v bs G := h.below (below_draws w m)
/-- What changes a block of another kind leaves it as it is. -/
theorem tb.apart {r : Nat} {t : TypeId} {cs : Array Value} (h : tb base w g n F v bs G) (hr : Blk w r t cs) (h1 : t ≠ 190) (h2 : t ≠ 214) (h3 : t ≠ 186) (k : Only (At r) w w') : tb base w' g n F v bs G :=
  h.only k (fun e => Blk.apart hr h.b h1 e.symm) (fun i hi e => own_apart h.o hr (fun e => h2 e.symm) i hi e) (fun i hi e => Blk.apart hr (h.s i hi) h3 e.symm)
/-- The first table has changed. -/
theorem tb.first {F' : Nat → Nat × Nat} (h : tb base w g n F v bs G) (k : Only (At g) w w') (hb : Blk w' g 190 (tcells (.pointer (some ⟨g, 0, none⟩)) n F' v)) : tb base w' g n F' v bs G :=
  ⟨hb, own_only h.o k (fun i hi e => own_apart h.o h.b (by decide) i hi e), fun i hi => (h.s i hi).only k (fun e => Blk.apart h.b (h.s i hi) (by decide) e.symm), h.d, h.lo, h.g0⟩
/-- A second table has changed. -/
theorem tb.second {i : Nat} {Gi : Nat → Nat × Nat} (h : tb base w g n F v bs G) (hi : i < bs.length) (k : Only (At (bs.getD i 0)) w w') (hb : Blk w' (bs.getD i 0) 186 (scells Gi)) : tb base w' g n F v bs (fun a => if a = i then Gi else G a) := by
  refine ⟨h.b.only k (fun e => Blk.apart h.b (h.s i hi) (by decide) e), own_only h.o k (fun j hj e => own_apart h.o (h.s i hi) (by decide) j hj e), fun a ha => ?_, h.d, h.lo, h.g0⟩
  by_cases e : a = i
  · subst e
    rw [if_pos rfl]; exact hb
  · rw [if_neg e]
    exact (h.s a ha).only k (fun e2 => e (h.d a i ha hi e2))
theorem tb.row (h : tb base w g n F v bs G) {i : Nat} (hi : i < bs.length) : ∃ r cap, v = .slice (some ⟨r, 0, none⟩) bs.length cap ∧ w.cell? ⟨r, i, none⟩ = some (sl (bs.getD i 0)) := by
  rcases h.o.2 with ⟨_, e⟩ | ⟨r, cap, cur, rfl, _, hh, _⟩
  · omega
  · refine ⟨r, cap, rfl, ?_⟩
    have hadd : (⟨r, 0, none⟩ : Addr).add i = ⟨r, i, none⟩ := by unfold Addr.add; split <;> simp_all
    rw [← hadd]
    refine h.o.cells (g := r) rfl i _ ?_
    rw [List.getElem?_map, List.getD_eq_getElem?_getD, List.getElem?_eq_getElem hi]
    rfl
theorem tb.c0 (h : tb base w g n F v bs G) : w.cell? ⟨g, 0, none⟩ = some (.pointer (some ⟨g, 0, none⟩)) := (h.b.cell 0).trans (t_c0 _ _ _ _)
theorem tb.c1 (h : tb base w g n F v bs G) : w.cell? ⟨g, 1, none⟩ = some (.int .i64 n) := (h.b.cell 1).trans (t_c1 _ _ _ _)
theorem tb.cl (h : tb base w g n F v bs G) : w.cell? ⟨g, 1026, none⟩ = some v := (h.b.cell 1026).trans (t_cl _ _ _ _)
theorem tb.ca (h : tb base w g n F v bs G) {p : Nat} (hp : p < 512) : w.cell? ⟨g, 2 + p * 2, none⟩ = some (.int .u16 (F p).1) := (h.b.cell _).trans ((pairs_t _ _ _).c1 F p hp)
theorem tb.cb (h : tb base w g n F v bs G) {p : Nat} (hp : p < 512) : w.cell? ⟨g, 2 + p * 2 + 1, none⟩ = some (.int .u16 (F p).2) := (h.b.cell _).trans ((pairs_t _ _ _).c2 F p hp)
theorem tb.sa (h : tb base w g n F v bs G) {i j : Nat} (hi : i < bs.length) (hj : j < 64) : w.cell? ⟨bs.getD i 0, j * 2, none⟩ = some (.int .u16 (G i j).1) := by
  have e := ((h.s i hi).cell (0 + j * 2)).trans (pairs_s.c1 (G i) j hj)
  rw [Nat.zero_add] at e; exact e
theorem tb.sb (h : tb base w g n F v bs G) {i j : Nat} (hi : i < bs.length) (hj : j < 64) : w.cell? ⟨bs.getD i 0, j * 2 + 1, none⟩ = some (.int .u16 (G i j).2) := by
  have e := ((h.s i hi).cell (0 + j * 2 + 1)).trans (pairs_s.c2 (G i) j hj)
  rw [Nat.zero_add] at e; exact e
end

theorem infoT : (Tryz.prog.info? 190).isSome = true := by kernel_rfl
theorem pNone_nil (w : World) : Calls Tryz.prog 158 #[.pointer none] w fun e w' => e = .returned (.bool true) ∧ w = w' := by
  go_enter Tryz.func158, Tryz.ntmps158
  go_wp2
  go_ret
  exact ⟨rfl, rfl⟩
theorem pNone_zero {w : World} {g : Nat} (c0 : w.cell? ⟨g, 0, none⟩ = some (.pointer none)) : Calls Tryz.prog 158 #[.pointer (some ⟨g, 0, none⟩)] w fun e w' => e = .returned (.bool true) ∧ w = w' := by
  have he := run_neq_nil w ⟨g, 0, none⟩ Tryz.underlying64
  go_enter Tryz.func158, Tryz.ntmps158
  go_wp2
  go_ret
  exact ⟨rfl, rfl⟩
theorem pNone_any {w : World} {g : Nat} (c0 : w.cell? ⟨g, 0, none⟩ = some (.pointer (some ⟨g, 0, none⟩))) : Calls Tryz.prog 158 #[.pointer (some ⟨g, 0, none⟩)] w fun e w' => e = .returned (.bool false) ∧ w = w' := by
  obtain ⟨j, hj⟩ := Option.isSome_iff_exists.1 infoT
  have he := run_neq_same w ⟨g, 0, none⟩ Tryz.underlying64 hj
  clear hj
  go_enter Tryz.func158, Tryz.ntmps158
  go_wp2
  go_ret
  exact ⟨rfl, rfl⟩
set_option maxRecDepth 100000 in
theorem find_any {base : Nat} {w : World} {g n : Nat} {F : Nat → Nat × Nat} {v : Value} {bs : List Nat} {G : Nat → Nat → Nat × Nat} (h : tb base w g n F v bs G) (x : Nat) (hx : x < 32768) (hl : (F (x % 512)).1 = 16 → (F (x % 512)).2 < bs.length) :
    Calls Tryz.prog 159 #[.pointer (some ⟨g, 0, none⟩), .int .i64 x] w fun e w' => e = .returned (.agg #[.int .u16 (lkp F G x).1, .int .u16 (lkp F G x).2]) ∧ Below w.heap.size w w' := by
  have hp : x % 512 < 512 := Nat.mod_lt _ (by omega)
  have ca := h.ca hp
  have cb := h.cb hp
  have hgw := h.b.lt
  have H := Lib.hid h
  by_cases h16 : (F (x % 512)).1 = 16
  · obtain ⟨r, cap, rfl, cr⟩ := h.row (hl h16)
    have hj : x / 512 < 64 := by omega
    have sa := h.sa (hl h16) hj
    have sb := h.sb (hl h16) hj
    have cl := h.cl
    have HL : Hid (lkp F G x = G (F (x % 512)).2 (x / 512)) := Lib.hid (if_pos h16)
    have hi := hl h16
    obtain ⟨i, hie⟩ : ∃ i, i = (F (x % 512)).2 := ⟨_, rfl⟩
    rw [h16] at ca
    rw [← hie] at cb cr sa sb HL hi
    obtain ⟨B, hB⟩ : ∃ B, B = bs.getD i 0 := ⟨_, rfl⟩
    rw [← hB] at cr sa sb
    obtain ⟨p, hpe⟩ : ∃ p, p = x % 512 := ⟨_, rfl⟩
    obtain ⟨j, hje⟩ : ∃ j, j = x / 512 := ⟨_, rfl⟩
    rw [← hpe] at ca cb hp
    rw [← hje] at sa sb HL hj
    have e1 : (x : Int) % 512 = (p : Int) := by omega
    have e2 : (x : Int) / 512 = (j : Int) := by omega
    obtain ⟨c, d, hcd⟩ : ∃ c d, G i j = (c, d) := ⟨_, _, rfl⟩
    rw [hcd] at sa sb HL
    obtain ⟨m, hm⟩ : ∃ m, m = bs.length := ⟨_, rfl⟩
    rw [← hm] at hi cl
    unfold sl at cr
    have hrw := World.block_lt_of_cell? _ _ cr
    have hBw := World.block_lt_of_cell? _ _ sa
    simp only at hrw hBw
    clear hl h16 hie hB hpe hje hcd h hm hx
    go_enter Tryz.func159, Tryz.ntmps159
    go_wp2
    obtain ⟨w2, hw2⟩ : ∃ w2, w2 = (w.alloc (.cells #[.int .u16 0, .int .u16 0] 186)).alloc (.cells #[.int .u16 16, .int .u16 i] 186) := ⟨_, rfl⟩
    have hz : w.heap.size + 1 < w2.heap.size := by rw [hw2, size_alloc, size_alloc]; omega
    have B2 : Below w.heap.size w w2 := by rw [hw2]; exact grows (below_alloc _ _) (below_alloc _ _)
    have ka := (B2.cell (p := ⟨g, 1026, none⟩) hgw).trans cl
    have kb := (B2.cell (p := ⟨r, i, none⟩) hrw).trans cr
    have kc := (B2.cell (p := ⟨B, j * 2, none⟩) hBw).trans sa
    have kd := (B2.cell (p := ⟨B, j * 2 + 1, none⟩) hBw).trans sb
    have X2 : Blk w2 (w.heap.size + 1) 186 #[.int .u16 16, .int .u16 i] := by
      have := Blk.fresh (w.alloc (.cells #[.int .u16 0, .int .u16 0] 186)) 186 #[.int .u16 16, .int .u16 i]
      rw [size_alloc, ← hw2] at this; exact this
    have X1 : Blk w2 w.heap.size 186 #[.int .u16 0, .int .u16 0] := by
      have := (Blk.fresh w 186 #[.int .u16 0, .int .u16 0]).below (below_alloc _ (.cells #[.int .u16 16, .int .u16 i] 186))
      rw [← hw2] at this; exact this
    have x0 := X2.cell 0
    have x1 := X2.cell 1
    have y0 := X1.cell 0
    have y1 := X1.cell 1
    have fx0 := X2.frozen 0
    have fx1 := X2.frozen 1
    have fy0 := X1.frozen 0
    have fy1 := X1.frozen 1
    have hB2 := Lib.hid B2
    rw [← hw2]
    clear hw2 ca cb cl cr sa sb B2
    have Y := Lib.hid ((((X1.apartStore (p := ⟨w.heap.size + 1, 0, none⟩) (u := .int .u16 c) (by show w.heap.size ≠ w.heap.size + 1; omega)).apartStore (p := ⟨w.heap.size + 1, 1, none⟩) (u := .int .u16 d) (by show w.heap.size ≠ w.heap.size + 1; omega)).store 0 (.int .u16 c)).store 1 (.int .u16 d))
    have O2 := Lib.hid ((((hB2.out.setCell (p := ⟨w.heap.size + 1, 0, none⟩) (by show w.heap.size ≤ w.heap.size + 1; omega) (.int .u16 c)).setCell (p := ⟨w.heap.size + 1, 1, none⟩) (by show w.heap.size ≤ w.heap.size + 1; omega) (.int .u16 d)).setCell (p := ⟨w.heap.size, 0, none⟩) (Nat.le_refl _) (.int .u16 c)).setCell (p := ⟨w.heap.size, 1, none⟩) (Nat.le_refl _) (.int .u16 d))
    clear X1 X2
    go_region
    go_wp2
    have k0 := Y.out.cell 0
    have k1 := Y.out.cell 1
    have k0' := (show ∀ u : World, u.drew.cell? ⟨w.heap.size, 0, none⟩ = u.cell? ⟨w.heap.size, 0, none⟩ from fun _ => rfl)
    have k1' := (show ∀ u : World, u.drew.cell? ⟨w.heap.size, 1, none⟩ = u.cell? ⟨w.heap.size, 1, none⟩ from fun _ => rfl)
    exact bodyPost_ret (v := .agg #[.int .u16 c, .int .u16 d]) (by simp [results, Tryz.results159, go_sem, k0', k1', k0, k1]) rfl ⟨by rw [HL.out], below_drew O2.out⟩
  · have HL : Hid (lkp F G x = F (x % 512)) := Lib.hid (if_neg h16)
    obtain ⟨c, d, hcd⟩ : ∃ c d, F (x % 512) = (c, d) := ⟨_, _, rfl⟩
    rw [hcd] at ca cb HL h16
    have h16' : ((c : Int) == 16) = false := by simp; simp at h16; omega
    clear hl hcd h h16
    go_enter Tryz.func159, Tryz.ntmps159
    go_wp2
    exact bodyPost_ret (v := .agg #[.int .u16 c, .int .u16 d]) (by simp [results, Tryz.results159, go_sem]) rfl ⟨by rw [HL.out], grows (below_alloc _ _) (below_alloc _ _)⟩
end Go.Proofs.YtnkninjdpgpkmaaGreatDoor.Pd
namespace Go.Proofs.YtnkninjdpgpkmaaGreatDoor.Pz
open Go.RowKit Go.Proofs.YtnkninjdpgpkmaaGreatDoor.Pc

/-- A table's zero cells. -/
def tz : Array Value := (((Array.replicate 1027 (Value.int .u16 0)).setIfInBounds 0 (.pointer none)).setIfInBounds 1 (.int .i64 0)).setIfInBounds 1026 (.slice none 0 0)
theorem infoZ : (Tryz.prog.info? 190).map (·.zero) = some (some (.agg tz)) := by kernel_rfl
theorem places : (Tryz.prog.underlying 190).map (fun d => match d with | .struct fs => fs.toList.mapM (fun f => (Tryz.prog.info? f.type).map fun i => (f.offset, i.size)) | _ => none) = some (some [(0, 1), (1, 1), (2, 1024), (1026, 1)]) := by kernel_rfl
end Go.Proofs.YtnkninjdpgpkmaaGreatDoor.Pz
namespace Go.Proofs.YtnkninjdpgpkmaaGreatDoor.Py
open Go.RowKit Go.Proofs.YtnkninjdpgpkmaaGreatDoor.Pc Go.Proofs.YtnkninjdpgpkmaaGreatDoor.Pz

theorem rep_eq (N : Nat) (c : Value) : Array.replicate N c = cellsN N (fun _ => c) := by
  apply Array.ext
  · simp [cellsN]
  · intro i h1 h2
    simp [cellsN]
theorem tz_eq : tz = tcells (.pointer none) 0 (fun _ => (0, 0)) (.slice none 0 0) := by
  unfold tz tcells
  rw [rep_eq, cellsN_set, cellsN_set, cellsN_set]
  refine cellsN_congr fun i hi => ?_
  unfold tcell
  by_cases e2 : i = 1026
  · rw [if_pos e2, if_neg (by omega), if_neg (by omega), if_pos e2]
  · rw [if_neg e2]
    by_cases e1 : i = 1
    · rw [if_pos e1, if_neg (by omega), if_pos e1]; rfl
    · rw [if_neg e1]
      by_cases e0 : i = 0
      · rw [if_pos e0, if_pos e0]
      · rw [if_neg e0, if_neg e0, if_neg e1, if_neg e2]
        unfold pr; split <;> rfl
theorem t_set1 (me : Value) (n m : Nat) (F : Nat → Nat × Nat) (v : Value) : (tcells me n F v).setIfInBounds 1 (.int .i64 m) = tcells me m F v := by
  unfold tcells
  rw [cellsN_set]
  refine cellsN_congr fun i hi => ?_
  unfold tcell
  by_cases e : i = 1
  · rw [if_pos e, if_neg (by omega), if_pos e]
  · rw [if_neg e]
    by_cases e3 : i = 0
    · rw [if_pos e3, if_pos e3]
    · rw [if_neg e3, if_neg e3, if_neg e, if_neg e]
theorem zeroT : ∃ i, Tryz.prog.info? 190 = some i ∧ i.zero = some (.agg (tcells (.pointer none) 0 (fun _ => (0, 0)) (.slice none 0 0))) := by
  have h := infoZ
  rw [tz_eq] at h
  cases hq : Tryz.prog.info? 190 with
  | none => rw [hq] at h; cases h
  | some i => rw [hq] at h; exact ⟨i, rfl, by simpa using h⟩
theorem t_size (me : Value) (n : Nat) (F : Nat → Nat × Nat) (v : Value) : (tcells me n F v).size = 1027 := cellsN_size _ _
theorem built (n : Nat) : Tryz.prog.built 190 [(1, .int .i64 n)] = some (tcells (.pointer none) n (fun _ => (0, 0)) (.slice none 0 0)) := by
  obtain ⟨i, hi, hz⟩ := zeroT
  have hp := places
  have hu := Tryz.underlying190
  rw [hu] at hp
  simp only [Option.map_some, Option.some.injEq] at hp
  unfold Program.built
  rw [hi, hu]
  simp only [hz, hp]
  have hs := t_size (.pointer none) 0 (fun _ => (0, 0)) (.slice none 0 0)
  have h1 := t_set1 (.pointer none) 0 n (fun _ => (0, 0)) (.slice none 0 0)
  generalize tcells (.pointer none) 0 (fun _ => (0, 0)) (.slice none 0 0) = T at *
  simp [Instr.fill, Value.cells, hs]
  exact h1
theorem run_built (n : Nat) (u : World) : (Instr.build 190 #[(1, .int .i64 n)]).run Tryz.prog u = .ok (.agg (tcells (.pointer none) n (fun _ => (0, 0)) (.slice none 0 0))) u :=
  run_build u 190 #[(1, .int .i64 n)] _ (built n)

theorem built0 : Tryz.prog.built 190 [] = some (tcells (.pointer none) 0 (fun _ => (0, 0)) (.slice none 0 0)) := by
  obtain ⟨i, hi, hz⟩ := zeroT
  have hp := places
  have hu := Tryz.underlying190
  rw [hu] at hp
  simp only [Option.map_some, Option.some.injEq] at hp
  unfold Program.built
  rw [hi, hu]
  simp only [hz, hp]
  generalize tcells (.pointer none) 0 (fun _ => (0, 0)) (.slice none 0 0) = T at *
  simp [Instr.fill, Value.cells]
end Go.Proofs.YtnkninjdpgpkmaaGreatDoor.Py
