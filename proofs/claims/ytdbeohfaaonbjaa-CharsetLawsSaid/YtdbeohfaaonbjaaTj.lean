/-
  Two sets compared.
  Conditions: four words each.
-/
import Derived.Test.YtdbeohfaaonbjaaTf
import Derived.Laws.StructEq
import Derived.Laws.Tables
import Derived.Laws.Cover2
import Derived.KernelRfl
namespace Go.Proofs.Ytdbeohfaaonbjaa.Tj
open Go.RowKit Go.Proofs.Ytdbeohfaaonbjaa.Bw Go.Proofs.Ytdbeohfaaonbjaa.Tm Go.Proofs.Ytdbeohfaaonbjaa.Ta Go.Proofs.Ytdbeohfaaonbjaa.Tb Go.Proofs.Ytdbeohfaaonbjaa.Tf

set_option maxRecDepth 100000 in
theorem eq_four (x0 x1 x2 x3 y0 y1 y2 y3 : Int) (w : World) :
    (Op.equalIn 10000 25 (.agg #[.int .u64 x0, .int .u64 x1, .int .u64 x2, .int .u64 x3]) (.agg #[.int .u64 y0, .int .u64 y1, .int .u64 y2, .int .u64 y3])).run Try.prog w = .ok (x0 == y0 && x1 == y1 && x2 == y2 && x3 == y3) w := by
  have u3 := Try.underlying23
  have a3 := Try.isAgg23
  have z3 := Try.sizeOf23
  rw [show (10000 : Nat) = 9999 + 1 from rfl, Op.equalIn]
  simp only [Sem.run_bind, run_underlying Try.underlying25, Result.andThen_ok]
  simp only [Std.Legacy.Range.forIn_eq_forIn_range', Std.Legacy.Range.size, Nat.sub_zero, Nat.add_sub_cancel, Nat.div_one, List.range'_succ, List.range'_zero, List.forIn_cons, List.forIn_nil]
  go_simp
  by_cases h0 : x0 = y0 <;> by_cases h1 : x1 = y1 <;> by_cases h2 : x2 = y2 <;> by_cases h3 : x3 = y3 <;> simp [h0, h1, h2, h3]
theorem eq_same (x0 x1 x2 x3 : Int) (w : World) :
    (Op.equalIn 10000 25 (.agg #[.int .u64 x0, .int .u64 x1, .int .u64 x2, .int .u64 x3]) (.agg #[.int .u64 x0, .int .u64 x1, .int .u64 x2, .int .u64 x3])).run Try.prog w = .ok true w := by
  rw [eq_four]; simp
theorem eq_not {x0 x1 x2 x3 y0 y1 y2 y3 : Nat} (h : ([x0, x1, x2, x3] : List Nat) ≠ [y0, y1, y2, y3]) (w : World) :
    (Op.equalIn 10000 25 (.agg #[.int .u64 (x0 : Int), .int .u64 (x1 : Int), .int .u64 (x2 : Int), .int .u64 (x3 : Int)]) (.agg #[.int .u64 (y0 : Int), .int .u64 (y1 : Int), .int .u64 (y2 : Int), .int .u64 (y3 : Int)])).run Try.prog w = .ok false w := by
  rw [eq_four]
  congr 1
  rw [Bool.eq_false_iff]
  intro e
  simp only [Bool.and_eq_true, beq_iff_eq] at e
  obtain ⟨⟨⟨e0, e1⟩, e2⟩, e3⟩ := e
  have f0 : x0 = y0 := by omega
  have f1 : x1 = y1 := by omega
  have f2 : x2 = y2 := by omega
  have f3 : x3 = y3 := by omega
  exact h (by rw [f0, f1, f2, f3])
theorem eq_sv {a b : List Nat} (ha : isSet a) (h : a = b) (w : World) : (Op.equalIn 10000 25 (.agg (sv a)) (.agg (sv b))).run Try.prog w = .ok true w := by
  subst h
  obtain ⟨x0, x1, x2, x3, rfl⟩ := four_of ha
  exact eq_same _ _ _ _ w
end Go.Proofs.Ytdbeohfaaonbjaa.Tj
