/-
  The reference's Of, And, Or.
  Two sets compared.
  Conditions: as each theorem says.
-/
import Derived.Test.YtabcehifdomolaaDoorQaf
import Derived.Deep.RegionWith
import Derived.Deep.RegionHeld3
import Derived.Deep.RegionLaw
import Derived.BigQuiet
import Derived.Laws.StructEq
import Derived.Laws.Tables
import Derived.Laws.Cover2
import Derived.KernelRfl
namespace Go.Proofs.YtabcehifdomolaaDoor.Tf
open Go.RowKit Go.Proofs.YtabcehifdomolaaDoor.Vm Go.Proofs.YtabcehifdomolaaDoor.Vo Go.Proofs.YtabcehifdomolaaDoor.Bw Go.Proofs.YtabcehifdomolaaDoor.Na Go.Proofs.YtabcehifdomolaaDoor.Tm Go.Proofs.YtabcehifdomolaaDoor.Ta Go.Proofs.YtabcehifdomolaaDoor.Tb Go.Proofs.YtabcehifdomolaaDoor.Tc Go.Proofs.YtabcehifdomolaaDoor.Td Go.Proofs.YtabcehifdomolaaDoor.Te

theorem sv_four (x0 x1 x2 x3 : Nat) : sv [x0, x1, x2, x3] = #[.int .u64 (x0 : Int), .int .u64 (x1 : Int), .int .u64 (x2 : Int), .int .u64 (x3 : Int)] := rfl
theorem four_of {a : List Nat} (h : isSet a) : ∃ x0 x1 x2 x3 : Nat, a = [x0, x1, x2, x3] := by
  match a, h.l with
  | [x0, x1, x2, x3], _ => exact ⟨x0, x1, x2, x3, rfl⟩
theorem cells4 {w : World} {g x0 x1 x2 x3 : Nat} (h : Blk w g 36 (sv [x0, x1, x2, x3])) :
    w.cell? ⟨g, 0, none⟩ = some (.int .u64 x0) ∧ w.cell? ⟨g, 1, none⟩ = some (.int .u64 x1) ∧ w.cell? ⟨g, 2, none⟩ = some (.int .u64 x2) ∧ w.cell? ⟨g, 3, none⟩ = some (.int .u64 x3) :=
  ⟨h.cell 0, h.cell 1, h.cell 2, h.cell 3⟩
theorem store4 {w : World} {g x0 x1 x2 x3 y0 y1 y2 y3 : Nat} (h : Blk w g 36 (sv [x0, x1, x2, x3])) :
    Blk ((((w.setCell ⟨g, 0, none⟩ (.int .u64 y0)).setCell ⟨g, 1, none⟩ (.int .u64 y1)).setCell ⟨g, 2, none⟩ (.int .u64 y2)).setCell ⟨g, 3, none⟩ (.int .u64 y3)) g 36 (sv [y0, y1, y2, y3]) := by
  have h0 := h.store 0 (.int .u64 y0)
  have h1 := h0.store 1 (.int .u64 y1)
  have h2 := h1.store 2 (.int .u64 y2)
  exact h2.store 3 (.int .u64 y3)
theorem only4 {w : World} {g : Nat} (v0 v1 v2 v3 : Value) : Only (· = g) w ((((w.setCell ⟨g, 0, none⟩ v0).setCell ⟨g, 1, none⟩ v1).setCell ⟨g, 2, none⟩ v2).setCell ⟨g, 3, none⟩ v3) :=
  ((((Only.refl (· = g) w).store (p := ⟨g, 0, none⟩) (.inl rfl) _).store (p := ⟨g, 1, none⟩) (.inl rfl) _).store (p := ⟨g, 2, none⟩) (.inl rfl) _).store (p := ⟨g, 3, none⟩) (.inl rfl) _

theorem start4 (w : World) (t : TypeId) (c1 c2 c3 c4 : Array Value) : Blk ((((w.alloc (.cells c1 t)).alloc (.cells c2 t)).alloc (.cells c3 t)).alloc (.cells c4 t)) w.heap.size t c1
    ∧ Blk ((((w.alloc (.cells c1 t)).alloc (.cells c2 t)).alloc (.cells c3 t)).alloc (.cells c4 t)) (w.heap.size + 1) t c2 ∧ Blk ((((w.alloc (.cells c1 t)).alloc (.cells c2 t)).alloc (.cells c3 t)).alloc (.cells c4 t)) (w.heap.size + 1 + 1) t c3
    ∧ Blk ((((w.alloc (.cells c1 t)).alloc (.cells c2 t)).alloc (.cells c3 t)).alloc (.cells c4 t)) (w.heap.size + 1 + 1 + 1) t c4 ∧ Below w.heap.size w ((((w.alloc (.cells c1 t)).alloc (.cells c2 t)).alloc (.cells c3 t)).alloc (.cells c4 t)) := by
  obtain ⟨h1, h2, h3, h4⟩ := start3 w t t t c1 c2 c3
  refine ⟨h1.below (below_alloc _ _), h2.below (below_alloc _ _), h3.below (below_alloc _ _), ?_, grows h4 (below_alloc _ _)⟩
  have := Blk.fresh (((w.alloc (.cells c1 t)).alloc (.cells c2 t)).alloc (.cells c3 t)) t c4
  rw [size_alloc, size_alloc, size_alloc] at this; exact this

theorem ofS_two {a b : List Nat} (ha : isSet a) (hb : isSet b) : ofS (bts a ++ bts b) = orL a b := set_ext (ofS_set _) (orL_set ha hb) fun c hc => by
  have h1 := has_ofS (bts a) hc
  have h2 := has_ofS (bts b) hc
  rw [show ofS (bts a) = a from ofS_byt ha] at h1
  rw [show ofS (bts b) = b from ofS_byt hb] at h2
  rw [has_ofS _ hc, List.any_append, has_or hc, h1, h2]
/-- What the calls of Or keep. -/
structure kept (W w : World) (a b z : List Nat) : Prop where
  a : Blk w W.heap.size 36 (sv a)
  b : Blk w (W.heap.size + 1) 36 (sv b)
  z : Blk w (W.heap.size + 1 + 1) 36 (sv z)
  w : Below W.heap.size W w
theorem kept.next {W w w' : World} {a b z : List Nat} (h : kept W w a b z) (k : Below w.heap.size w w') : kept W w' a b z := ⟨h.a.below k, h.b.below k, h.z.below k, h.w.trans (k.mono h.w.size)⟩

end Go.Proofs.YtabcehifdomolaaDoor.Tf
namespace Go.Proofs.YtabcehifdomolaaDoor.Tj
open Go.RowKit Go.Proofs.YtabcehifdomolaaDoor.Bw Go.Proofs.YtabcehifdomolaaDoor.Tm Go.Proofs.YtabcehifdomolaaDoor.Ta Go.Proofs.YtabcehifdomolaaDoor.Tb Go.Proofs.YtabcehifdomolaaDoor.Tf

set_option maxRecDepth 100000 in
theorem eq_four (x0 x1 x2 x3 y0 y1 y2 y3 : Int) (w : World) :
    (Op.equalIn 10000 36 (.agg #[.int .u64 x0, .int .u64 x1, .int .u64 x2, .int .u64 x3]) (.agg #[.int .u64 y0, .int .u64 y1, .int .u64 y2, .int .u64 y3])).run Tryd.prog w = .ok (x0 == y0 && x1 == y1 && x2 == y2 && x3 == y3) w := by
  have u3 := Tryd.underlying34
  have a3 := Tryd.isAgg34
  have z3 := Tryd.sizeOf34
  rw [show (10000 : Nat) = 9999 + 1 from rfl, Op.equalIn]
  simp only [Sem.run_bind, run_underlying Tryd.underlying36, Result.andThen_ok]
  simp only [Std.Legacy.Range.forIn_eq_forIn_range', Std.Legacy.Range.size, Nat.sub_zero, Nat.add_sub_cancel, Nat.div_one, List.range'_succ, List.range'_zero, List.forIn_cons, List.forIn_nil]
  go_simp
  by_cases h0 : x0 = y0 <;> by_cases h1 : x1 = y1 <;> by_cases h2 : x2 = y2 <;> by_cases h3 : x3 = y3 <;> simp [h0, h1, h2, h3]
theorem eq_same (x0 x1 x2 x3 : Int) (w : World) :
    (Op.equalIn 10000 36 (.agg #[.int .u64 x0, .int .u64 x1, .int .u64 x2, .int .u64 x3]) (.agg #[.int .u64 x0, .int .u64 x1, .int .u64 x2, .int .u64 x3])).run Tryd.prog w = .ok true w := by
  rw [eq_four]; simp
theorem eq_not {x0 x1 x2 x3 y0 y1 y2 y3 : Nat} (h : ([x0, x1, x2, x3] : List Nat) ≠ [y0, y1, y2, y3]) (w : World) :
    (Op.equalIn 10000 36 (.agg #[.int .u64 (x0 : Int), .int .u64 (x1 : Int), .int .u64 (x2 : Int), .int .u64 (x3 : Int)]) (.agg #[.int .u64 (y0 : Int), .int .u64 (y1 : Int), .int .u64 (y2 : Int), .int .u64 (y3 : Int)])).run Tryd.prog w = .ok false w := by
  rw [eq_four]
  congr 1
  rw [Bool.eq_false_iff]
  intro e
  simp only [Bool.and_eq_true, beq_iff_eq] at e
  obtain ⟨⟨⟨e0, e1⟩, e2⟩, e3⟩ := e
  have f0 : x0 = y0 := by omega
  have f1 : x1 = y1 := by omega
  have f2 : x2 = y2 := by omega
  have f3 : x3 = y3 := by omega
  exact h (by rw [f0, f1, f2, f3])
theorem eq_sv {a b : List Nat} (ha : isSet a) (h : a = b) (w : World) : (Op.equalIn 10000 36 (.agg (sv a)) (.agg (sv b))).run Tryd.prog w = .ok true w := by
  subst h
  obtain ⟨x0, x1, x2, x3, rfl⟩ := four_of ha
  exact eq_same _ _ _ _ w
end Go.Proofs.YtabcehifdomolaaDoor.Tj
