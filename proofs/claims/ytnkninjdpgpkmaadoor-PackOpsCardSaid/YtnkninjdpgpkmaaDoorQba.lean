/-
  The reference's reader (collimatorref04): New and its methods: their results, the reader behind them; of what was there only the reader has changed.
  Conditions: as each theorem says.
-/
import Derived.Test.YtnkninjdpgpkmaaDoorQay
import Derived.Deep.LoopGhost
namespace Go.Proofs.YtnkninjdpgpkmaaDoor.Bq
open Go.RowKit Go.Proofs.YtnkninjdpgpkmaaDoor.Vm Go.Proofs.YtnkninjdpgpkmaaDoor.Vo Go.Proofs.YtnkninjdpgpkmaaDoor.Bm Go.Proofs.YtnkninjdpgpkmaaDoor.Bt Go.Proofs.YtnkninjdpgpkmaaDoor.Bw Go.Proofs.YtnkninjdpgpkmaaDoor.Br Go.Proofs.YtnkninjdpgpkmaaDoor.Bp Go.Proofs.YtnkninjdpgpkmaaDoor.Bs Go.PlainAid

theorem chk_cases (s : ByteArray) (a : Nat) (n : Int) : (chk s a n = 1 ∧ (n < 0 ∨ 32 < n)) ∨ (chk s a n = 2 ∧ 0 ≤ n ∧ n ≤ 32 ∧ ((8 * s.size - a : Nat) : Int) < n) ∨ (chk s a n = 0 ∧ 0 ≤ n ∧ n ≤ 32 ∧ ¬ ((8 * s.size - a : Nat) : Int) < n) := by
  by_cases hc : cnt n = true
  · have hn : 0 ≤ n ∧ n ≤ 32 := by simpa [cnt] using hc
    by_cases hl : ((8 * s.size - a : Nat) : Int) < n
    · exact .inr (.inl ⟨by unfold chk; rw [if_pos hc, if_pos hl], hn.1, hn.2, hl⟩)
    · exact .inr (.inr ⟨by unfold chk; rw [if_pos hc, if_neg hl], hn.1, hn.2, hl⟩)
  · refine .inl ⟨by unfold chk; rw [if_neg hc], ?_⟩
    simp [cnt] at hc
    omega

end Go.Proofs.YtnkninjdpgpkmaaDoor.Bq
