/-
  New: no table and what is wrong, or a table of the codes of these lengths.
  Read, called with a table that New made and a reader that bitrow made: the symbol, and where the reader stands.
  Conditions: as each theorem says.
-/
import Derived.Test.YtnkninjdpgpkmaaDoorQbg
import Derived.Test.YtnkninjdpgpkmaaDoorQbf
import Derived.Test.YtnkninjdpgpkmaaDoorQaf
import Derived.Great.BuildSlice
import Derived.Test.YtnkninjdpgpkmaaDoorQay
namespace Go.Proofs.YtnkninjdpgpkmaaDoor.Pg
open Go.RowKit Go.Proofs.YtnkninjdpgpkmaaDoor.Vm Go.Proofs.YtnkninjdpgpkmaaDoor.Bm Go.Proofs.YtnkninjdpgpkmaaDoor.Bt Go.Proofs.YtnkninjdpgpkmaaDoor.Bw Go.Proofs.YtnkninjdpgpkmaaDoor.Br Go.Proofs.YtnkninjdpgpkmaaDoor.Bs Go.Proofs.YtnkninjdpgpkmaaDoor.Na Go.Proofs.YtnkninjdpgpkmaaDoor.Nm Go.Proofs.YtnkninjdpgpkmaaDoor.Nw Go.Proofs.YtnkninjdpgpkmaaDoor.Ni Go.Proofs.YtnkninjdpgpkmaaDoor.Nc Go.Proofs.YtnkninjdpgpkmaaDoor.Nd Go.Proofs.YtnkninjdpgpkmaaDoor.Ne Go.Proofs.YtnkninjdpgpkmaaDoor.Nf Go.Proofs.YtnkninjdpgpkmaaDoor.Pm Go.Proofs.YtnkninjdpgpkmaaDoor.Pt Go.Proofs.YtnkninjdpgpkmaaDoor.Pc Go.Proofs.YtnkninjdpgpkmaaDoor.Pd Go.Proofs.YtnkninjdpgpkmaaDoor.Pe Go.Proofs.YtnkninjdpgpkmaaDoor.Pf Go.Proofs.YtnkninjdpgpkmaaDoor.Py

end Go.Proofs.YtnkninjdpgpkmaaDoor.Pg
namespace Go.Proofs.YtnkninjdpgpkmaaDoor.Ph
open Go.RowKit Go.Proofs.YtnkninjdpgpkmaaDoor.Vm Go.Proofs.YtnkninjdpgpkmaaDoor.Bm Go.Proofs.YtnkninjdpgpkmaaDoor.Bt Go.Proofs.YtnkninjdpgpkmaaDoor.Bw Go.Proofs.YtnkninjdpgpkmaaDoor.Br Go.Proofs.YtnkninjdpgpkmaaDoor.Bp Go.Proofs.YtnkninjdpgpkmaaDoor.Bs Go.Proofs.YtnkninjdpgpkmaaDoor.Na Go.Proofs.YtnkninjdpgpkmaaDoor.Nm Go.Proofs.YtnkninjdpgpkmaaDoor.Nw Go.Proofs.YtnkninjdpgpkmaaDoor.Pm Go.Proofs.YtnkninjdpgpkmaaDoor.Pt Go.Proofs.YtnkninjdpgpkmaaDoor.Pc Go.Proofs.YtnkninjdpgpkmaaDoor.Pd Go.Proofs.YtnkninjdpgpkmaaDoor.Pe Go.Proofs.YtnkninjdpgpkmaaDoor.Pf Go.Proofs.YtnkninjdpgpkmaaDoor.Pg

/-- What find tells, and what comes of it. -/
structure tells (l : List Nat) (N a left c d : Nat) : Prop where
  c15 : c ≤ 15
  d3 : d < 320
  ways : (0 < c ∧ c ≤ left ∧ gotS l N a left = (d : Int) ∧ gotE l N a left = 0 ∧ gotA l N a left = a + c) ∨ (0 < c ∧ left < c ∧ gotS l N a left = 0 ∧ gotE l N a left = 2 ∧ gotA l N a left = a)
    ∨ (c = 0 ∧ left < 15 ∧ gotS l N a left = 0 ∧ gotE l N a left = 2 ∧ gotA l N a left = a) ∨ (c = 0 ∧ ¬ left < 15 ∧ gotS l N a left = 0 ∧ gotE l N a left = 9 ∧ gotA l N a left = a)
theorem tells_of {l : List Nat} {m : Nat} {F : Nat → Nat × Nat} {G : Nat → Nat → Nat × Nat} (h15 : ∀ i, nth l i ≤ 15) (hks : ksum l 16 ≤ 32768) (hl : l.length ≤ 320) (h : inv l l.length m none F G) (N a left : Nat) : tells l N a left (lkp F G (peekN N a 15)).1 (lkp F G (peekN N a 15)).2 := by
  rcases h.sp (peekN N a 15) (peekN_lt N a 15) with ⟨s, hs, ha, e⟩ | ⟨hn, e⟩
  · have hr := (reads_At h15 hks hs N a).2 ha
    rw [e]
    refine ⟨h15 s, by show s < 320; omega, ?_⟩
    by_cases hle : nth l s ≤ left
    · have hg := got_some h15 hs hr hle
      exact .inl ⟨ha.1, hle, by simp [gotS, hg], by simp [gotE, hg], by simp [gotA, hg]⟩
    · have hg : got l N a left = none := got_none (fun i hi hri => by rw [reads_one h15 hi hs hri hr]; exact hle)
      have h5 := h15 s
      exact .inr (.inl ⟨ha.1, by show left < nth l s; omega, by simp [gotS, hg], by simp [gotE, hg]; omega, by simp [gotA, hg]⟩)
  · have hg : got l N a left = none := got_none (fun i hi hri => absurd ((reads_At h15 hks hi N a).1 hri) (hn i hi))
    rw [e]
    refine ⟨by show 0 ≤ 15; omega, by show 0 < 320; omega, ?_⟩
    by_cases h5 : left < 15
    · exact .inr (.inr (.inl ⟨rfl, h5, by simp [gotS, hg], by simp [gotE, hg]; omega, by simp [gotA, hg]⟩))
    · exact .inr (.inr (.inr ⟨rfl, h5, by simp [gotS, hg], by simp [gotE, hg]; omega, by simp [gotA, hg]⟩))
theorem chk_in {s : ByteArray} {a c : Nat} (hc : c ≤ 15) (h : c ≤ 8 * s.size - a) : chk s a (c : Int) = 0 := by
  unfold chk; rw [if_pos (by simp [cnt]; omega), if_neg (by omega)]
theorem chk_out {s : ByteArray} {a c : Nat} (hc : c ≤ 15) (h : 8 * s.size - a < c) : chk s a (c : Int) = 2 := by
  unfold chk; rw [if_pos (by simp [cnt]; omega), if_pos (by omega)]

end Go.Proofs.YtnkninjdpgpkmaaDoor.Ph
