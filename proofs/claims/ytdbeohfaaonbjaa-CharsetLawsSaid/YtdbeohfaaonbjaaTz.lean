/-
  What the laws lean on: how many bytes a range has; a set and all others.
  Conditions: as each theorem says.
-/
import Derived.Test.YtdbeohfaaonbjaaTk
import Derived.Test.YtdbeohfaaonbjaaTy
import Derived.Test.YtdbeohfaaonbjaaTq
namespace Go.Proofs.Ytdbeohfaaonbjaa.Tz
open Go.RowKit Go.PlainAid Go.Proofs.Ytdbeohfaaonbjaa.Vm Go.Proofs.Ytdbeohfaaonbjaa.Vo Go.Proofs.Ytdbeohfaaonbjaa.Bw Go.Proofs.Ytdbeohfaaonbjaa.Ba Go.Proofs.Ytdbeohfaaonbjaa.Na Go.Proofs.Ytdbeohfaaonbjaa.Tm Go.Proofs.Ytdbeohfaaonbjaa.Ts Go.Proofs.Ytdbeohfaaonbjaa.Ta Go.Proofs.Ytdbeohfaaonbjaa.Tb Go.Proofs.Ytdbeohfaaonbjaa.Tc Go.Proofs.Ytdbeohfaaonbjaa.Td Go.Proofs.Ytdbeohfaaonbjaa.Te Go.Proofs.Ytdbeohfaaonbjaa.Tf Go.Proofs.Ytdbeohfaaonbjaa.Tj Go.Proofs.Ytdbeohfaaonbjaa.Tg Go.Proofs.Ytdbeohfaaonbjaa.Th Go.Proofs.Ytdbeohfaaonbjaa.Ti Go.Proofs.Ytdbeohfaaonbjaa.Tn Go.Proofs.Ytdbeohfaaonbjaa.Tk Go.Proofs.Ytdbeohfaaonbjaa.Ty

theorem wf8 {x : Int} (h : (Lit.int .u8 x).wf = true) : ∃ n : Nat, x = (n : Int) ∧ n < 256 := by
  have h2 : 0 ≤ x ∧ x < 256 := by
    have e1 : IntKind.u8.min = 0 := by decide
    have e2 : IntKind.u8.max = 255 := by decide
    simp [Lit.wf, e1, e2] at h
    omega
  exact ⟨x.toNat, by omega, by omega⟩
theorem cnt_range (x y : Nat) : ∀ n, ((List.range n).filter (fun c => decide (x ≤ c) && decide (c ≤ y))).length = min n (y + 1) - x
  | 0 => by simp
  | n + 1 => by
    rw [List.range_succ, List.filter_append, List.length_append, cnt_range x y n, List.filter_cons]
    by_cases h : x ≤ n ∧ n ≤ y
    · rw [if_pos (by simp; exact h)]; simp; omega
    · rw [if_neg (by simp; omega)]; simp; omega
theorem byt_frm {x y : Nat} (hy : y < 256) : (byt (frm x (y + 1))).length = y + 1 - x := by
  unfold byt
  rw [List.filter_congr (q := fun c => decide (x ≤ c) && decide (c ≤ y)) (fun c hc => has_frm hy (List.mem_range.1 hc)), cnt_range]
  omega
theorem byt_sum {a : List Nat} (ha : isSet a) : (byt a).length + (byt (notL a)).length = 256 := byt_not (fun _ hc => has_not ha hc)
/-- A set's cells, and that it is kept. -/
theorem kq_of {W u : World} {g n0 n1 n2 n3 : Nat} (h : kp W u g [n0, n1, n2, n3]) : u.cell? ⟨g, 0, none⟩ = some (.int .u64 (n0 : Int)) ∧ u.cell? ⟨g, 1, none⟩ = some (.int .u64 (n1 : Int)) ∧ u.cell? ⟨g, 2, none⟩ = some (.int .u64 (n2 : Int)) ∧ u.cell? ⟨g, 3, none⟩ = some (.int .u64 (n3 : Int)) ∧ kp W u g [n0, n1, n2, n3] :=
  ⟨h.b.cell 0, h.b.cell 1, h.b.cell 2, h.b.cell 3, h⟩
theorem kq_next {W u u' : World} {g n0 n1 n2 n3 : Nat} (h : kp W u g [n0, n1, n2, n3]) (k : Below u.heap.size u u') : u'.cell? ⟨g, 0, none⟩ = some (.int .u64 (n0 : Int)) ∧ u'.cell? ⟨g, 1, none⟩ = some (.int .u64 (n1 : Int)) ∧ u'.cell? ⟨g, 2, none⟩ = some (.int .u64 (n2 : Int)) ∧ u'.cell? ⟨g, 3, none⟩ = some (.int .u64 (n3 : Int)) ∧ kp W u' g [n0, n1, n2, n3] :=
  kq_of (h.next k)
end Go.Proofs.Ytdbeohfaaonbjaa.Tz
