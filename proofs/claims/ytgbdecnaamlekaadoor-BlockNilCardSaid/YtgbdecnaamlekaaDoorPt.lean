/-
  Tables of prefix codes in two steps, in numbers: what a lookup of fifteen bits finds, and how a table grows by a symbol.
  Conditions: as each theorem says. Nothing of the program is named here.
-/
import Derived.Test.YtgbdecnaamlekaaDoorPm
namespace Go.Proofs.YtgbdecnaamlekaaDoor.Pt
open Go.Proofs.YtgbdecnaamlekaaDoor.Bm Go.Proofs.YtgbdecnaamlekaaDoor.Nm Go.Proofs.YtgbdecnaamlekaaDoor.Nw Go.Proofs.YtgbdecnaamlekaaDoor.Pm

/-- Symbol s's code, its first bit the lowest one. -/
def tc (l : List Nat) (s : Nat) : Nat := turnN (code l s) (nth l s)
theorem tc_lt (l : List Nat) (s : Nat) : tc l s < 2 ^ nth l s := turnN_lt _ _
theorem tc_small {l : List Nat} (h15 : ∀ i, nth l i ≤ 15) (s : Nat) : tc l s < 32768 := Nat.lt_of_lt_of_le (tc_lt l s) (Nat.pow_le_pow_right (by omega) (h15 s) : 2 ^ nth l s ≤ 2 ^ 15)
/-- The bits x begin with symbol s's code. -/
def At (l : List Nat) (s x : Nat) : Prop := 0 < nth l s ∧ x % 2 ^ nth l s = tc l s
theorem At_self {l : List Nat} {s : Nat} (h : 0 < nth l s) : At l s (tc l s) := ⟨h, Nat.mod_eq_of_lt (tc_lt l s)⟩
theorem At_iff {l : List Nat} (h15 : ∀ i, nth l i ≤ 15) (hk : ksum l 16 ≤ 32768) {s : Nat} (hs : s < l.length) (x : Nat) : At l s x ↔ hit l (turnN x 15) s := by
  have hc := code_lt hs (h15 s) hk
  have h1 : turnN x 15 / 2 ^ (15 - nth l s) = turnN x (nth l s) := by
    have := turnN_high x (nth l s) (15 - nth l s)
    rw [show nth l s + (15 - nth l s) = 15 by have := h15 s; omega] at this
    exact this
  unfold At hit tc
  rw [h1]
  constructor
  · rintro ⟨h0, h⟩
    refine ⟨h0, ?_⟩
    rw [← turnN_mod x (nth l s) _ (Nat.le_refl _), h, turnN_turnN, Nat.mod_eq_of_lt hc]
  · rintro ⟨h0, h⟩
    refine ⟨h0, ?_⟩
    rw [← h, turnN_turnN]
theorem At_one {l : List Nat} (h15 : ∀ i, nth l i ≤ 15) (hk : ksum l 16 ≤ 32768) {i k x : Nat} (hi' : i < l.length) (hk' : k < l.length) (a : At l i x) (b : At l k x) : i = k :=
  hit_one h15 hi' hk' ((At_iff h15 hk hi' x).1 a) ((At_iff h15 hk hk' x).1 b)
theorem reads_At {l : List Nat} (h15 : ∀ i, nth l i ≤ 15) (hk : ksum l 16 ≤ 32768) {s : Nat} (hs : s < l.length) (N a : Nat) : reads l N a s ↔ At l s (peekN N a 15) := by
  rw [At_iff h15 hk hs, hi_peek]; rfl

/-- What a lookup finds: a size and a symbol. -/
def lkp (F : Nat → Nat × Nat) (G : Nat → Nat → Nat × Nat) (x : Nat) : Nat × Nat := if (F (x % 512)).1 = 16 then G (F (x % 512)).2 (x / 512) else F (x % 512)
/-- The tables of the first k symbols; link: a cell that has just been linked. -/
structure inv (l : List Nat) (k m : Nat) (link : Option Nat) (F : Nat → Nat × Nat) (G : Nat → Nat → Nat × Nat) : Prop where
  sp : ∀ x, x < 32768 → (∃ s, s < k ∧ At l s x ∧ lkp F G x = (nth l s, s)) ∨ ((∀ s, s < k → ¬ At l s x) ∧ lkp F G x = (0, 0))
  lk : ∀ p, p < 512 → (F p).1 = 16 → (F p).2 < m ∧ (link = some p ∨ ∃ s, s < k ∧ 9 < nth l s ∧ tc l s % 512 = p)
  one : ∀ p q, p < 512 → q < 512 → (F p).1 = 16 → (F q).1 = 16 → (F p).2 = (F q).2 → p = q
  le : m ≤ k + (if link = none then 0 else 1)

theorem inv_zero (l : List Nat) (G : Nat → Nat → Nat × Nat) : inv l 0 0 none (fun _ => (0, 0)) G :=
  ⟨fun x _ => .inr ⟨fun s h => absurd h (by omega), by simp [lkp]⟩, fun p _ h => absurd h (by simp), fun p q _ _ h => absurd h (by simp), by simp⟩
theorem inv_skip {l : List Nat} {k m : Nat} {F : Nat → Nat × Nat} {G : Nat → Nat → Nat × Nat} (h : inv l k m none F G) (h0 : nth l k = 0) : inv l (k + 1) m none F G := by
  refine ⟨fun x hx => ?_, fun p hp h1 => ?_, h.one, by have := h.le; simp at this ⊢; omega⟩
  · rcases h.sp x hx with ⟨s, hs, ha, hl⟩ | ⟨hn, hl⟩
    · exact .inl ⟨s, by omega, ha, hl⟩
    · refine .inr ⟨fun s hs ha => ?_, hl⟩
      rcases (show s < k ∨ s = k by omega) with h1 | rfl
      · exact hn s h1 ha
      · have := ha.1; omega
  · obtain ⟨a, b⟩ := h.lk p hp h1
    refine ⟨a, ?_⟩
    rcases b with b | ⟨s, hs, b⟩
    · exact .inl b
    · exact .inr ⟨s, by omega, b⟩

theorem mod_512 {n : Nat} (hn : n ≤ 9) (x : Nat) : x % 512 % 2 ^ n = x % 2 ^ n :=
  Nat.mod_mod_of_dvd x (Nat.pow_dvd_pow 2 hn : 2 ^ n ∣ 2 ^ 9)
theorem mod_long {n : Nat} (hn : 9 ≤ n) (x b : Nat) : x % 2 ^ n = b ↔ x % 512 = b % 512 ∧ x / 512 % 2 ^ (n - 9) = b / 512 := by
  have e : 2 ^ n = 512 * 2 ^ (n - 9) := by
    rw [show (512 : Nat) = 2 ^ 9 by decide, ← Nat.pow_add]; congr 1; omega
  rw [e, Nat.mod_mul]
  have h1 := Nat.mod_add_div b 512
  have h2 : x % 512 < 512 := Nat.mod_lt _ (by omega)
  have h3 : b % 512 < 512 := Nat.mod_lt _ (by omega)
  constructor
  · intro h
    omega
  · rintro ⟨h4, h5⟩
    rw [h4, h5]; omega
theorem div_lt_long {n b : Nat} (hn : 9 ≤ n) (hb : b < 2 ^ n) : b / 512 < 2 ^ (n - 9) := by
  have e : 2 ^ n = 512 * 2 ^ (n - 9) := by
    rw [show (512 : Nat) = 2 ^ 9 by decide, ← Nat.pow_add]; congr 1; omega
  rw [Nat.div_lt_iff_lt_mul (by omega)]
  rw [e, Nat.mul_comm] at hb
  exact hb

/-- The first table with a short code. -/
def putF (F : Nat → Nat × Nat) (n b k : Nat) : Nat → Nat × Nat := fun p => if p % 2 ^ n = b then (n, k) else F p
theorem inv_short {l : List Nat} {k m : Nat} {F : Nat → Nat × Nat} {G : Nat → Nat → Nat × Nat} (h15 : ∀ i, nth l i ≤ 15) (hk : ksum l 16 ≤ 32768) (hkl : k < l.length) (h0 : 0 < nth l k) (h9 : nth l k ≤ 9) (h : inv l k m none F G) :
    inv l (k + 1) m none (putF F (nth l k) (tc l k) k) G := by
  have hfree : ∀ p, p < 512 → p % 2 ^ nth l k = tc l k → (F p).1 ≠ 16 := by
    intro p hp hpm h1
    obtain ⟨_, b⟩ := h.lk p hp h1
    rcases b with b | ⟨s, hs, hs9, hb⟩
    · cases b
    · have e := At_one h15 hk (x := tc l s) (show s < l.length by omega) hkl (At_self (by omega)) ⟨h0, by rw [← mod_512 h9, hb, hpm]⟩
      omega
  have hF : ∀ p, ((putF F (nth l k) (tc l k) k) p).1 = 16 → ¬ p % 2 ^ nth l k = tc l k ∧ (putF F (nth l k) (tc l k) k) p = F p := by
    intro p hp
    unfold putF at hp ⊢
    by_cases e : p % 2 ^ nth l k = tc l k
    · rw [if_pos e] at hp; simp at hp; omega
    · exact ⟨e, if_neg e⟩
  refine ⟨fun x hx => ?_, fun p hp h1 => ?_, fun p q hp hq h1 h2 h3 => ?_, by have := h.le; simp at this ⊢; omega⟩
  · by_cases e : x % 2 ^ nth l k = tc l k
    · refine .inl ⟨k, by omega, ⟨h0, e⟩, ?_⟩
      have e2 : x % 512 % 2 ^ nth l k = tc l k := by rw [mod_512 h9]; exact e
      have e3 : (putF F (nth l k) (tc l k) k) (x % 512) = (nth l k, k) := if_pos e2
      unfold lkp
      rw [e3, if_neg (by show nth l k ≠ 16; omega)]
    · have e2 : ¬ x % 512 % 2 ^ nth l k = tc l k := by rw [mod_512 h9]; exact e
      have e3 : (putF F (nth l k) (tc l k) k) (x % 512) = F (x % 512) := if_neg e2
      have e4 : lkp (putF F (nth l k) (tc l k) k) G x = lkp F G x := by unfold lkp; rw [e3]
      rw [e4]
      rcases h.sp x hx with ⟨s, hs, ha, hl⟩ | ⟨hn, hl⟩
      · exact .inl ⟨s, by omega, ha, hl⟩
      · refine .inr ⟨fun s hs ha => ?_, hl⟩
        rcases (show s < k ∨ s = k by omega) with h1 | rfl
        · exact hn s h1 ha
        · exact e ha.2
  · obtain ⟨_, e⟩ := hF p h1
    rw [e] at h1 ⊢
    obtain ⟨a, b⟩ := h.lk p hp h1
    refine ⟨a, ?_⟩
    rcases b with b | ⟨s, hs, b⟩
    · exact .inl b
    · exact .inr ⟨s, by omega, b⟩
  · obtain ⟨_, e1⟩ := hF p h1
    obtain ⟨_, e2⟩ := hF q h2
    rw [e1] at h1 h3
    rw [e2] at h2 h3
    exact h.one p q hp hq h1 h2 h3

/-- A cell that is linked already. -/
theorem inv_old {l : List Nat} {k m : Nat} {F : Nat → Nat × Nat} {G : Nat → Nat → Nat × Nat} (p : Nat) (h : inv l k m none F G) : inv l k m (some p) F G :=
  ⟨h.sp, fun q hq h1 => by
    obtain ⟨a, b⟩ := h.lk q hq h1
    rcases b with b | b
    · cases b
    · exact ⟨a, .inr b⟩, h.one, by have := h.le; simp at this ⊢; omega⟩
/-- A cell that is linked now. -/
def linkF (F : Nat → Nat × Nat) (p m : Nat) : Nat → Nat × Nat := fun q => if q = p then (16, m) else F q
def linkG (G : Nat → Nat → Nat × Nat) (m : Nat) : Nat → Nat → Nat × Nat := fun i => if i = m then (fun _ => (0, 0)) else G i
theorem free {l : List Nat} {k m : Nat} {F : Nat → Nat × Nat} {G : Nat → Nat → Nat × Nat} (h15 : ∀ i, nth l i ≤ 15) (hk : ksum l 16 ≤ 32768) (hkl : k < l.length) (h0 : 0 < nth l k) (h : inv l k m none F G) (hp : (F (tc l k % 512)).1 ≠ 16) : F (tc l k % 512) = (0, 0) := by
  have e : lkp F G (tc l k) = F (tc l k % 512) := if_neg hp
  rcases h.sp (tc l k) (tc_small h15 k) with ⟨s, hs, ha, _⟩ | ⟨_, hl⟩
  · have := At_one h15 hk (show s < l.length by omega) hkl ha (At_self h0)
    omega
  · rw [← e]; exact hl
theorem inv_new {l : List Nat} {k m p : Nat} {F : Nat → Nat × Nat} {G : Nat → Nat → Nat × Nat} (h : inv l k m none F G) (hp : F p = (0, 0)) : inv l k (m + 1) (some p) (linkF F p m) (linkG G m) := by
  have hF : ∀ q, q ≠ p → linkF F p m q = F q := fun q hq => if_neg hq
  have hFp : linkF F p m p = (16, m) := if_pos rfl
  refine ⟨fun x hx => ?_, fun q hq h1 => ?_, fun q r hq hr h1 h2 h3 => ?_, by have := h.le; simp at this ⊢; omega⟩
  · by_cases e : x % 512 = p
    · have e1 : lkp (linkF F p m) (linkG G m) x = (0, 0) := by unfold lkp; rw [e, hFp]; simp [linkG]
      have e2 : lkp F G x = (0, 0) := by unfold lkp; rw [e, hp]; simp
      rw [e1]
      rcases h.sp x hx with ⟨s, hs, ha, hl⟩ | ⟨hn, hl⟩
      · rw [e2] at hl; have := ha.1; simp at hl; omega
      · exact .inr ⟨hn, rfl⟩
    · have e1 : lkp (linkF F p m) (linkG G m) x = lkp F G x := by
        unfold lkp
        rw [hF _ e]
        by_cases h16 : (F (x % 512)).1 = 16
        · rw [if_pos h16, if_pos h16]
          have := (h.lk _ (Nat.mod_lt _ (by omega)) h16).1
          simp [linkG, show (F (x % 512)).2 ≠ m by omega]
        · rw [if_neg h16, if_neg h16]
      rw [e1]; exact h.sp x hx
  · by_cases e : q = p
    · subst e; rw [hFp]; exact ⟨by show m < m + 1; omega, .inl rfl⟩
    · rw [hF q e] at h1 ⊢
      obtain ⟨a, b⟩ := h.lk q hq h1
      rcases b with b | b
      · cases b
      · exact ⟨by omega, .inr b⟩
  · by_cases e : q = p
    · subst e
      by_cases e2 : r = q
      · exact e2.symm
      · rw [hF r e2] at h2 h3
        have := (h.lk r hr h2).1
        rw [hFp] at h3
        simp at h3; omega
    · rw [hF q e] at h1 h3
      by_cases e2 : r = p
      · subst e2
        have := (h.lk q hq h1).1
        rw [hFp] at h3
        simp at h3; omega
      · rw [hF r e2] at h2 h3
        exact h.one q r hq hr h1 h2 h3
/-- A second table with a long code. -/
def putG (G : Nat → Nat → Nat × Nat) (i n b k : Nat) : Nat → Nat → Nat × Nat := fun a => if a = i then (fun j => if j % 2 ^ (n - 9) = b / 512 then (n, k) else G i j) else G a
theorem inv_long {l : List Nat} {k m : Nat} {F : Nat → Nat × Nat} {G : Nat → Nat → Nat × Nat} (hkl : k < l.length) (h9 : 9 < nth l k) (h : inv l k m (some (tc l k % 512)) F G) (hl : (F (tc l k % 512)).1 = 16) :
    inv l (k + 1) m none F (putG G (F (tc l k % 512)).2 (nth l k) (tc l k) k) := by
  have hp : tc l k % 512 < 512 := Nat.mod_lt _ (by omega)
  refine ⟨fun x hx => ?_, fun q hq h1 => ?_, h.one, by have := h.le; simp at this ⊢; omega⟩
  · have hm := mod_long (n := nth l k) (by omega) x (tc l k)
    by_cases e : x % 512 = tc l k % 512
    · by_cases e2 : x / 512 % 2 ^ (nth l k - 9) = tc l k / 512
      · refine .inl ⟨k, by omega, ⟨by omega, hm.2 ⟨e, e2⟩⟩, ?_⟩
        unfold lkp; rw [e, if_pos hl]; simp [putG, e2]
      · have e3 : lkp F (putG G (F (tc l k % 512)).2 (nth l k) (tc l k) k) x = lkp F G x := by unfold lkp; rw [e, if_pos hl, if_pos hl]; simp [putG, e2]
        rw [e3]
        rcases h.sp x hx with ⟨s, hs, ha, hl⟩ | ⟨hn, hl⟩
        · exact .inl ⟨s, by omega, ha, hl⟩
        · refine .inr ⟨fun s hs ha => ?_, hl⟩
          rcases (show s < k ∨ s = k by omega) with h1 | rfl
          · exact hn s h1 ha
          · exact e2 (hm.1 ha.2).2
    · have e3 : lkp F (putG G (F (tc l k % 512)).2 (nth l k) (tc l k) k) x = lkp F G x := by
        unfold lkp
        by_cases h16 : (F (x % 512)).1 = 16
        · rw [if_pos h16, if_pos h16]
          have : (F (x % 512)).2 ≠ (F (tc l k % 512)).2 := fun e4 => e (h.one _ _ (Nat.mod_lt _ (by omega)) hp h16 hl e4)
          simp [putG, this]
        · rw [if_neg h16, if_neg h16]
      rw [e3]
      rcases h.sp x hx with ⟨s, hs, ha, hl⟩ | ⟨hn, hl⟩
      · exact .inl ⟨s, by omega, ha, hl⟩
      · refine .inr ⟨fun s hs ha => ?_, hl⟩
        rcases (show s < k ∨ s = k by omega) with h1 | rfl
        · exact hn s h1 ha
        · exact e (hm.1 ha.2).1
  · obtain ⟨a, b⟩ := h.lk q hq h1
    refine ⟨a, .inr ?_⟩
    rcases b with b | ⟨s, hs, b⟩
    · injection b with b
      exact ⟨k, by omega, h9, b⟩
    · exact ⟨s, by omega, b⟩
end Go.Proofs.YtgbdecnaamlekaaDoor.Pt
