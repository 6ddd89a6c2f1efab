/-
  Prefix codes read, in numbers: which symbol the next bits begin with.
  Conditions: as each theorem says. Nothing of the program is named here.
-/
import Derived.Test.YtgbdecnaamlekaaDoorBm
import Derived.Test.YtgbdecnaamlekaaDoorNw
namespace Go.Proofs.YtgbdecnaamlekaaDoor.Pm
open Go.Proofs.YtgbdecnaamlekaaDoor.Bm Go.Proofs.YtgbdecnaamlekaaDoor.Nm Go.Proofs.YtgbdecnaamlekaaDoor.Nw

/-- The next n bits of N from place a on, the first bit highest. -/
def hi (N a n : Nat) : Nat := turnN (N / 2 ^ a) n
theorem hi_zero (N a : Nat) : hi N a 0 = 0 := rfl
theorem hi_next (N a n : Nat) : hi N a (n + 1) = 2 * hi N a n + N / 2 ^ (a + n) % 2 := by
  unfold hi
  rw [turnN, Nat.div_div_eq_div_mul, ← Nat.pow_add]
theorem hi_lt (N a n : Nat) : hi N a n < 2 ^ n := turnN_lt _ _
theorem hi_peek (N a n : Nat) : turnN (peekN N a n) n = hi N a n := turnN_mod _ _ _ (Nat.le_refl _)
theorem hi_cut (N a : Nat) {n : Nat} (h : n ≤ 15) : hi N a 15 / 2 ^ (15 - n) = hi N a n := by
  have := turnN_high (N / 2 ^ a) n (15 - n)
  rw [show n + (15 - n) = 15 by omega] at this
  exact this
/-- Symbol i's code stands at place a. -/
def reads (l : List Nat) (N a i : Nat) : Prop := hit l (hi N a 15) i
theorem reads_iff {l : List Nat} (h15 : ∀ i, nth l i ≤ 15) (N a i : Nat) : reads l N a i ↔ 0 < nth l i ∧ code l i = hi N a (nth l i) := by
  unfold reads hit
  rw [hi_cut N a (h15 i)]
  constructor
  · exact fun h => ⟨h.1, h.2.symm⟩
  · exact fun h => ⟨h.1, h.2.symm⟩
theorem reads_one {l : List Nat} {N a i k : Nat} (h15 : ∀ i, nth l i ≤ 15) (hi' : i < l.length) (hk : k < l.length) (x : reads l N a i) (y : reads l N a k) : i = k := hit_one h15 hi' hk x y
open Classical in
/-- The symbol that is read where so many bits are left. -/
noncomputable def got (l : List Nat) (N a left : Nat) : Option Nat := if h : ∃ i, i < l.length ∧ reads l N a i ∧ nth l i ≤ left then some h.choose else none
theorem got_some {l : List Nat} {N a left i : Nat} (h15 : ∀ i, nth l i ≤ 15) (hi' : i < l.length) (h : reads l N a i) (hl : nth l i ≤ left) : got l N a left = some i := by
  have ex : ∃ i, i < l.length ∧ reads l N a i ∧ nth l i ≤ left := ⟨i, hi', h, hl⟩
  unfold got
  rw [dif_pos ex]
  have := ex.choose_spec
  rw [reads_one h15 this.1 hi' this.2.1 h]
theorem got_none {l : List Nat} {N a left : Nat} (h : ∀ i, i < l.length → reads l N a i → ¬ nth l i ≤ left) : got l N a left = none := by
  unfold got
  rw [dif_neg]
  rintro ⟨i, h1, h2, h3⟩
  exact h i h1 h2 h3
theorem got_cases {l : List Nat} (h15 : ∀ i, nth l i ≤ 15) (N a left : Nat) : (∃ i, i < l.length ∧ reads l N a i ∧ nth l i ≤ left ∧ got l N a left = some i) ∨ ((∀ i, i < l.length → reads l N a i → ¬ nth l i ≤ left) ∧ got l N a left = none) := by
  by_cases h : ∃ i, i < l.length ∧ reads l N a i ∧ nth l i ≤ left
  · obtain ⟨i, h1, h2, h3⟩ := h
    exact .inl ⟨i, h1, h2, h3, got_some h15 h1 h2 h3⟩
  · have : ∀ i, i < l.length → reads l N a i → ¬ nth l i ≤ left := fun i a b c => h ⟨i, a, b, c⟩
    exact .inr ⟨this, got_none this⟩
/-- What Read answers, and how far it goes. -/
noncomputable def gotS (l : List Nat) (N a left : Nat) : Int := match got l N a left with | some i => (i : Int) | none => 0
noncomputable def gotE (l : List Nat) (N a left : Nat) : Int := match got l N a left with | some _ => 0 | none => if left < 15 then 2 else 9
noncomputable def gotA (l : List Nat) (N a left : Nat) : Nat := match got l N a left with | some i => a + nth l i | none => a
end Go.Proofs.YtgbdecnaamlekaaDoor.Pm
