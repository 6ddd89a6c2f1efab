/-
  An automaton without choices in memory (layer 18): its 258 cells, its rows; a part of a block loaded; arrays of ints compared.
  Conditions: as each theorem says.
-/
import Derived.Test.YtfipagndpoahlaaRows
import Derived.Test.YtfipagndpoahlaaUa
import Derived.Test.YtfipagndpoahlaaKo
import Derived.BigFrame
import Derived.Laws.Rows
import Derived.Laws.StructEq
import Derived.Laws.Tables
import Derived.Laws.Cover2
import Derived.KernelRfl
namespace Go.Proofs.Ytfipagndpoahlaa.Ub
open Go.RowKit Go.Proofs.Ytfipagndpoahlaa.Bw Go.Proofs.Ytfipagndpoahlaa.Na Go.Proofs.Ytfipagndpoahlaa.Ko Go.Proofs.Ytfipagndpoahlaa.Ua

/-- Cells by their places. -/
def celN (n : Nat) (h : Nat → Value) : Array Value := Array.ofFn (n := n) fun i => h i.val
theorem celN_size (n : Nat) (h : Nat → Value) : (celN n h).size = n := by simp [celN]
theorem celN_get {n : Nat} (h : Nat → Value) {i : Nat} (hi : i < n) : (celN n h)[i]? = some (h i) := by simp [celN, hi]
theorem celN_congr {n : Nat} {h h' : Nat → Value} (e : ∀ i, i < n → h i = h' i) : celN n h = celN n h' := by
  unfold celN; congr 1; funext i; exact e _ i.isLt
/-- Rows of ints. -/
def irs (w : World) (A : Option Addr) (E : List (List Int)) : Prop := ∀ i l, E[i]? = some l → ∃ b off : Nat, A = some ⟨b, off, none⟩ ∧ b < w.heap.size ∧ ∃ (A' : Option Addr) (c' : Nat), w.cell? ⟨b, off + i, none⟩ = some (.slice A' l.length c') ∧ l.length ≤ c' ∧ l.length ≤ 9223372036854775807 ∧ row w A' l.length (at' l)
theorem irs.below {w w' : World} {A : Option Addr} {E : List (List Int)} (h : irs w A E) (k : Below w.heap.size w w') : irs w' A E := fun i l hi => by
  obtain ⟨b, off, rfl, hb, A', c', hc, hl, hm, he⟩ := h i l hi
  exact ⟨b, off, rfl, Nat.lt_of_lt_of_le hb k.size, A', c', (k.cell (p := ⟨b, off + i, none⟩) hb).trans hc, hl, hm, he.below k⟩
/-- An automaton's cells. -/
def dcell (v1 v2 : Value) (cl : List Int) (i : Nat) : Value := if i < 256 then .int .i64 (at' cl i) else if i = 256 then v1 else v2
def dcs (v1 v2 : Value) (cl : List Int) : Array Value := celN 258 (dcell v1 v2 cl)
/-- An automaton as a value, with the places of its rows. -/
structure dfv (w : World) (V : Array Value) (A1 : Option Addr) (c1 : Nat) (A2 : Option Addr) (c2 : Nat) (D : Df) : Prop where
  v : V = dcs (.slice A1 D.nx.length c1) (.slice A2 D.ru.length c2) D.cl
  c : D.cl.length = 256
  k : D.nx.length ≤ 9223372036854775807
  m : D.ru.length ≤ 9223372036854775807
  n : irs w A1 D.nx
  r : row w A2 D.ru.length (at' D.ru)
/-- An automaton as a value. -/
def dfa (w : World) (V : Array Value) (D : Df) : Prop := ∃ A1 c1 A2 c2, dfv w V A1 c1 A2 c2 D
section
variable {w w' : World} {V : Array Value} {A1 A2 : Option Addr} {c1 c2 : Nat} {D : Df}
theorem dfv.below (h : dfv w V A1 c1 A2 c2 D) (k : Below w.heap.size w w') : dfv w' V A1 c1 A2 c2 D := ⟨h.v, h.c, h.k, h.m, h.n.below k, h.r.below k⟩
theorem dfa.below (h : dfa w V D) (k : Below w.heap.size w w') : dfa w' V D := by
  obtain ⟨A1, c1, A2, c2, h⟩ := h
  exact ⟨A1, c1, A2, c2, h.below k⟩
theorem dfv.of (h : dfv w V A1 c1 A2 c2 D) : dfa w V D := ⟨_, _, _, _, h⟩
theorem dfv.size (h : dfv w V A1 c1 A2 c2 D) : V.size = 258 := by rw [h.v]; exact celN_size _ _
theorem dfv.vn (h : dfv w V A1 c1 A2 c2 D) : V[256]? = some (.slice A1 D.nx.length c1) := by rw [h.v]; exact celN_get _ (by omega)
theorem dfv.vr (h : dfv w V A1 c1 A2 c2 D) : V[257]? = some (.slice A2 D.ru.length c2) := by rw [h.v]; exact celN_get _ (by omega)
theorem dfv.vc (h : dfv w V A1 c1 A2 c2 D) {j : Nat} (hj : j < 256) : V[j]? = some (.int .i64 (at' D.cl j)) := by
  rw [h.v]
  refine (celN_get _ (by omega)).trans ?_
  unfold dcell; rw [if_pos hj]
end
section
variable {P : Program}
/-- Cells of a block are loaded as one value. -/
theorem run_load_part (w : World) (g off : Nat) (ty : TypeId) (xs : Array Value) (d : TypeDesc) (hx : ∀ j, j < xs.size → w.cell? ⟨g, off + j, none⟩ = xs[j]?)
    (hu : P.underlying ty = some d) (hd : (match d with | .struct _ | .array _ _ => true | _ => false) = true) (hi : (P.info? ty).map (·.size) = some xs.size) :
    (loadVar ty ⟨g, off, none⟩).run P w = .ok (.agg xs) w := by
  have hl : (loadCells ⟨g, off, none⟩ xs.toList.length).run P w = .ok xs.toList.toArray w :=
    run_loadCells_list (P := P) w ⟨g, off, none⟩ xs.toList (fun j v hv => by
      have hj : j < xs.size := by simpa using (List.getElem?_eq_some_iff.1 hv).1
      have hadd : (⟨g, off, none⟩ : Addr).add j = ⟨g, off + j, none⟩ := by unfold Addr.add; split <;> simp_all
      rw [hadd, hx j hj]
      simpa using hv)
  cases hq : P.info? ty with
  | none => simp [hq] at hi
  | some i =>
    have hs : i.size = xs.size := by simpa [hq] using hi
    have hagg : (isAgg ty).run P w = .ok true w := by
      unfold isAgg
      rw [Sem.run_bind, run_underlying hu w]
      cases d <;> simp_all
    simp only [Array.length_toList, Array.toArray_toList] at hl
    simp [loadVar, Sem.run_bind, hagg, sizeOf, typeInfo, hq, hs, hl]
theorem wp_load_part {o : Oper} {a : Act} {w : World} {K : Act → World → Prop} {Q : Exit → Act → World → Prop} (ty : TypeId) (x : Operand) (ho : o.op = .load ty x)
    (g off : Nat) (hx : a.eval x = .pointer (some ⟨g, off, none⟩)) (xs : Array Value) (d : TypeDesc) (hg : ∀ j, j < xs.size → w.cell? ⟨g, off + j, none⟩ = xs[j]?)
    (hu : P.underlying ty = some d) (hd : (match d with | .struct _ | .array _ _ => true | _ => false) = true) (hi : (P.info? ty).map (·.size) = some xs.size)
    (h : K (a.put o.dst (.agg xs)) w) : o.wp P a w K Q := by
  unfold Oper.wp execOp
  simp only [ho, hx, Instr.loadAt, Instr.sureAddr, Sem.run_bind, Sem.run_pure, Result.andThen_ok, run_load_part w g off ty xs d hg hu hd hi]
  exact h
theorem wpList_load_part {ops : Array Oper} {rest : List Oper} {o : Oper} {a : Act} {w : World} {Q : Exit → Act → World → Prop} (hgd : o.guard = none) (ty : TypeId) (x : Operand) (ho : o.op = .load ty x)
    (g off : Nat) (hx : a.eval x = .pointer (some ⟨g, off, none⟩)) (xs : Array Value) (d : TypeDesc) (hg : ∀ j, j < xs.size → w.cell? ⟨g, off + j, none⟩ = xs[j]?)
    (hu : P.underlying ty = some d) (hd : (match d with | .struct _ | .array _ _ => true | _ => false) = true) (hi : (P.info? ty).map (·.size) = some xs.size)
    (h : wpList P ops Q rest (a.put o.dst (.agg xs)) w) : wpList P ops Q (o :: rest) a w :=
  wpList_plain hgd fun _ hK => wp_load_part ty x ho g off hx xs d hg hu hd hi (hK _ _ h)
theorem wpList_load_if {ops : Array Oper} {rest : List Oper} {o : Oper} {a : Act} {w : World} {Q : Exit → Act → World → Prop} (hw : Region.wanted o (yielded ops a.tmps) = true) (ty : TypeId) (x : Operand) (ho : o.op = .load ty x)
    (g off : Nat) (hx : a.eval x = .pointer (some ⟨g, off, none⟩)) (xs : Array Value) (d : TypeDesc) (hg : ∀ j, j < xs.size → w.cell? ⟨g, off + j, none⟩ = xs[j]?)
    (hu : P.underlying ty = some d) (hd : (match d with | .struct _ | .array _ _ => true | _ => false) = true) (hi : (P.info? ty).map (·.size) = some xs.size)
    (h : wpList P ops Q rest (a.put o.dst (.agg xs)) w) : wpList P ops Q (o :: rest) a w :=
  BigFrame.wpList_want hw fun _ hK => wp_load_part ty x ho g off hx xs d hg hu hd hi (hK _ _ h)
/-- Its cells are its block's. -/
theorem Blk_part {w : World} {g : Nat} {t : TypeId} {V : Array Value} (h : Blk w g t V) : ∀ j, j < V.size → w.cell? ⟨g, 0 + j, none⟩ = V[j]? := fun j _ => by rw [Nat.zero_add]; exact h.cell j
end
theorem infoD : (Try.prog.info? 26).map (·.size) = some 258 := by kernel_rfl
theorem infoC : (Try.prog.info? 22).map (·.size) = some 256 := by kernel_rfl
/-- The first cells of an automaton's are the bytes' classes. -/
theorem dfv.part {w u : World} {V : Array Value} {A1 A2 : Option Addr} {c1 c2 : Nat} {D : Df} (h : dfv w V A1 c1 A2 c2 D) {g : Nat} {t : TypeId} (k : Blk u g t V) : ∀ j, j < (arr 256 (at' D.cl)).size → u.cell? ⟨g, 0 + j, none⟩ = (arr 256 (at' D.cl))[j]? := fun j hj => by
  rw [arr_size] at hj
  rw [Nat.zero_add, k.cell, h.vc hj, arr_get _ hj]
/-- A loop that goes on, or ends early, at each place. -/
theorem forIn_all {σ : Type} {P : Program} {w : World} (x y : σ) (body : Nat → σ → Sem (ForInStep σ)) (q : Nat → Bool) : ∀ (l : List Nat), (∀ i ∈ l, (body i x).run P w = .ok (if q i then .yield x else .done y) w) → (forIn l x body).run P w = .ok (if l.all q then x else y) w
  | [], _ => by simp [List.forIn_nil, Sem.run_pure]
  | i :: l, h => by
    rw [List.forIn_cons, Sem.run_bind, h i List.mem_cons_self]
    cases hq : q i
    · simp [Sem.run_pure, hq]
    · simp only [hq, if_true, Result.andThen_ok, List.all_cons, Bool.true_and]
      exact forIn_all x y body q l (fun j hj => h j (List.mem_cons_of_mem _ hj))
/-- Two arrays of ints are alike. -/
def same256 (f g : Nat → Int) : Bool := (List.range' 0 256).all fun i => f i == g i
set_option maxRecDepth 100000 in
/-- Two arrays of ints compared. -/
theorem eq_arr (f g : Nat → Int) (w : World) :
    (Op.equalIn 10000 22 (.agg (arr 256 f)) (.agg (arr 256 g))).run Try.prog w = .ok (same256 f g) w := by
  have u3 := Try.underlying3
  have a3 := Try.isAgg3
  have z3 := Try.sizeOf3
  rw [show (10000 : Nat) = 9999 + 1 from rfl, Op.equalIn]
  simp only [Sem.run_bind, run_underlying Try.underlying22, Result.andThen_ok]
  simp only [Std.Legacy.Range.forIn_eq_forIn_range', Std.Legacy.Range.size, Nat.sub_zero, Nat.add_sub_cancel, Nat.div_one]
  rw [z3, Result.andThen_ok, forIn_all (x := _) (y := ⟨some false, PUnit.unit⟩) (q := fun i => f i == g i)]
  · unfold same256
    cases (List.range' 0 256).all fun i => f i == g i <;> simp [Sem.run_pure]
  · intro i hi
    have hi' : i < 256 := by simpa using hi
    have hf := arr_get f hi'
    have hg := arr_get g hi'
    simp only [Nat.mul_one]
    go_simp
    by_cases h : f i = g i <;> simp [h]
end Go.Proofs.Ytfipagndpoahlaa.Ub
