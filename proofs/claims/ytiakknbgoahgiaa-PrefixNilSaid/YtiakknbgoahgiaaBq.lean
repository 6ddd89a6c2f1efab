/-
  The reference's reader (collimatorref04): New and its methods: their results, the reader behind them; of what was there only the reader has changed.
  Conditions: as each theorem says.
-/
import Derived.Test.YtiakknbgoahgiaaBs
import Derived.Deep.LoopGhost
namespace Go.Proofs.Ytiakknbgoahgiaa.Bq
open Go.RowKit Go.Proofs.Ytiakknbgoahgiaa.Vm Go.Proofs.Ytiakknbgoahgiaa.Vo Go.Proofs.Ytiakknbgoahgiaa.Bm Go.Proofs.Ytiakknbgoahgiaa.Bt Go.Proofs.Ytiakknbgoahgiaa.Bw Go.Proofs.Ytiakknbgoahgiaa.Br Go.Proofs.Ytiakknbgoahgiaa.Bp Go.Proofs.Ytiakknbgoahgiaa.Bs Go.PlainAid

theorem rNew_ok (s : ByteArray) (a : Nat) (w : World) (hs : s.size ≤ 281474976710656) (ha : a ≤ 8 * s.size) :
    Calls Try.prog 12 #[.string s, .int .i64 a] w fun e w' => ∃ g, e = .returned (.tuple #[.pointer (some ⟨g, 0, none⟩), .int .i64 0]) ∧ rr w' g s a ∧ g = w.heap.size ∧ Below w.heap.size w w' := by
  go_enter Try.func12, Try.ntmps12
  go_wp2
  go_ret2
  exact ⟨_, rfl, Blk.fresh w 42 _, rfl, (Below.refl _ _).alloc (Nat.le_refl _) _⟩
theorem rNew_no (s : ByteArray) (a : Int) (w : World) (hs : s.size ≤ 281474976710656) (ha : a < 0 ∨ 8 * (s.size : Int) < a) :
    Calls Try.prog 12 #[.string s, .int .i64 a] w fun e w' => ∃ g, e = .returned (.tuple #[.pointer (some ⟨g, 0, none⟩), .int .i64 1]) ∧ Below w.heap.size w w' := by
  rcases ha with ha | ha
  all_goals
    go_enter Try.func12, Try.ntmps12
    go_wp2
    go_ret2
    exact ⟨_, rfl, (Below.refl _ _).alloc (Nat.le_refl _) _⟩

theorem rLeft_any {w : World} {g : Nat} {s : ByteArray} {a : Nat} (h : rr w g s a) (hs : s.size ≤ 281474976710656) (ha : a ≤ 8 * s.size) :
    Calls Try.prog 33 #[.pointer (some ⟨g, 0, none⟩)] w fun e w' => e = .returned (.int .i64 ((8 * s.size - a : Nat) : Int)) ∧ ∃ n, w' = w.drewN n := by
  have c1 := h.c0
  have c2 := h.c1
  go_enter Try.func33, Try.ntmps33
  go_wp2
  go_quiet (fail)
  go_wp2
  go_ret
  exact ⟨ret_int (by go_num), _, rfl⟩
theorem rLeft_b {w : World} {g : Nat} {s : ByteArray} {a : Nat} (h : rr w g s a) (hs : s.size ≤ 281474976710656) (ha : a ≤ 8 * s.size) :
    Calls Try.prog 33 #[.pointer (some ⟨g, 0, none⟩)] w fun e w' => e = .returned (.int .i64 ((8 * s.size - a : Nat) : Int)) ∧ rr w' g s a ∧ Below w.heap.size w w' :=
  (rLeft_any h hs ha).mono fun _ _ ⟨he, k, hk⟩ => ⟨he, by rw [hk]; exact h.draws k, by rw [hk]; exact below_draws w k⟩
theorem chk_cases (s : ByteArray) (a : Nat) (n : Int) : (chk s a n = 1 ∧ (n < 0 ∨ 32 < n)) ∨ (chk s a n = 2 ∧ 0 ≤ n ∧ n ≤ 32 ∧ ((8 * s.size - a : Nat) : Int) < n) ∨ (chk s a n = 0 ∧ 0 ≤ n ∧ n ≤ 32 ∧ ¬ ((8 * s.size - a : Nat) : Int) < n) := by
  by_cases hc : cnt n = true
  · have hn : 0 ≤ n ∧ n ≤ 32 := by simpa [cnt] using hc
    by_cases hl : ((8 * s.size - a : Nat) : Int) < n
    · exact .inr (.inl ⟨by unfold chk; rw [if_pos hc, if_pos hl], hn.1, hn.2, hl⟩)
    · exact .inr (.inr ⟨by unfold chk; rw [if_pos hc, if_neg hl], hn.1, hn.2, hl⟩)
  · refine .inl ⟨by unfold chk; rw [if_neg hc], ?_⟩
    simp [cnt] at hc
    omega

end Go.Proofs.Ytiakknbgoahgiaa.Bq
