/-
  Layer 18 in numbers and lists, made ahead: an automaton as tables (a row of next states for each state, a class for each byte, a rule for each state); where texts lead; from which states a rule can be reached.
  Conditions: as each theorem says. Nothing of the program is named here.
-/
import Derived.Test.YtfipagndpoahlaaKo
namespace Go.Proofs.Ytfipagndpoahlaa.Ua

/-- The tables. -/
structure Df where
  nx : List (List Int)
  cl : List Int
  ru : List Int
/-- How many classes there are, where each one is new in its turn. -/
def clsQ : List Int → Nat → Option Nat
  | [], k => some k
  | x :: r, k => if x < 0 ∨ (k : Int) < x then none else clsQ r (if x = (k : Int) then k + 1 else k)
theorem clsQ_ge : ∀ {l : List Int} {k m : Nat}, clsQ l k = some m → k ≤ m
  | [], k, m, h => by injection h with h; omega
  | x :: r, k, m, h => by
    unfold clsQ at h
    by_cases hc : x < 0 ∨ (k : Int) < x
    · rw [if_pos hc] at h; cases h
    · rw [if_neg hc] at h
      have := clsQ_ge h
      split at this <;> omega
/-- Each class is one of them, and each is some byte's. -/
theorem clsQ_in : ∀ {l : List Int} {k m : Nat}, clsQ l k = some m → ∀ x ∈ l, 0 ≤ x ∧ x < (m : Int)
  | [], _, _, _, x, hx => by cases hx
  | y :: r, k, m, h, x, hx => by
    unfold clsQ at h
    by_cases hc : y < 0 ∨ (k : Int) < y
    · rw [if_pos hc] at h; cases h
    · rw [if_neg hc] at h
      have hg := clsQ_ge h
      rcases List.mem_cons.1 hx with rfl | hx
      · split at hg <;> omega
      · exact clsQ_in h x hx
theorem clsQ_hit : ∀ {l : List Int} {k m : Nat}, clsQ l k = some m → ∀ j, k ≤ j → j < m → (j : Int) ∈ l
  | [], k, m, h, j, h1, h2 => by injection h with h; omega
  | y :: r, k, m, h, j, h1, h2 => by
    unfold clsQ at h
    by_cases hc : y < 0 ∨ (k : Int) < y
    · rw [if_pos hc] at h; cases h
    · rw [if_neg hc] at h
      by_cases hy : y = (k : Int)
      · rw [if_pos hy] at h
        by_cases hj : j = k
        · rw [hj, ← hy]; exact List.mem_cons_self
        · exact List.mem_cons_of_mem _ (clsQ_hit h j (by omega) h2)
      · rw [if_neg hy] at h
        exact List.mem_cons_of_mem _ (clsQ_hit h j h1 h2)
/-- Can it be? -/
structure okD (D : Df) : Prop where
  k1 : 1 ≤ D.nx.length
  k2 : D.nx.length ≤ 1000
  r : D.ru.length = D.nx.length
  c : D.cl.length = 256
  ru : ∀ x ∈ D.ru, -1 ≤ x ∧ x ≤ 31
  row : ∃ m, clsQ D.cl 0 = some m ∧ ∀ l ∈ D.nx, l.length = m ∧ ∀ x ∈ l, 0 ≤ x ∧ x < (D.nx.length : Int)
/-- Where a byte leads from a state. -/
def tq (D : Df) (p c : Nat) : Nat := ((D.nx.getD p []).getD (D.cl.getD c 0).toNat 0).toNat
/-- Where a text leads. -/
def gos (D : Df) (p : Nat) (s : List Nat) : Nat := s.foldl (tq D) p
theorem gos_app (D : Df) (p : Nat) (s t : List Nat) : gos D p (s ++ t) = gos D (gos D p s) t := by unfold gos; rw [List.foldl_append]
theorem gos_snoc (D : Df) (p : Nat) (s : List Nat) (c : Nat) : gos D p (s ++ [c]) = tq D (gos D p s) c := by rw [gos_app]; rfl
theorem okD.to_mem {D : Df} (h : okD D) {p c : Nat} (hp : p < D.nx.length) (hc : c < 256) : ∃ l, D.nx[p]? = some l ∧ ((tq D p c : Nat) : Int) ∈ l ∧ tq D p c < D.nx.length := by
  obtain ⟨m, hm, hr⟩ := h.row
  have e : D.nx[p]? = some D.nx[p] := List.getElem?_eq_getElem hp
  obtain ⟨h1, h2⟩ := hr D.nx[p] (List.getElem_mem hp)
  have hx : D.cl[c]? = some (D.cl[c]'(by rw [h.c]; exact hc)) := List.getElem?_eq_getElem _
  obtain ⟨g1, g2⟩ := clsQ_in hm _ (List.mem_of_getElem? hx)
  obtain ⟨x, hxx⟩ : ∃ x, x = D.cl[c]'(by rw [h.c]; exact hc) := ⟨_, rfl⟩
  rw [← hxx] at hx g1 g2
  have hj : x.toNat < (D.nx[p]).length := by rw [h1]; omega
  have ht : tq D p c = ((D.nx[p])[x.toNat]).toNat := by
    have ha : D.nx.getD p [] = D.nx[p] := by rw [List.getD_eq_getElem?_getD, e]; rfl
    have hb : D.cl.getD c 0 = x := by rw [List.getD_eq_getElem?_getD, hx]; rfl
    unfold tq
    rw [ha, hb, List.getD_eq_getElem?_getD, List.getElem?_eq_getElem hj]
    rfl
  have hmem := List.getElem_mem hj
  have hb := h2 _ hmem
  refine ⟨_, e, ?_, by rw [ht]; omega⟩
  rw [ht, Int.toNat_of_nonneg hb.1]
  exact hmem
theorem okD.gos_lt {D : Df} (h : okD D) : ∀ (s : List Nat) {p : Nat}, p < D.nx.length → (∀ c ∈ s, c < 256) → gos D p s < D.nx.length
  | [], _, hp, _ => hp
  | c :: s, p, hp, hs => by
    obtain ⟨l, _, _, h3⟩ := h.to_mem hp (hs c List.mem_cons_self)
    exact okD.gos_lt h s h3 (fun d hd => hs d (List.mem_cons_of_mem _ hd))
/-- From here a rule can be reached. -/
inductive lv (D : Df) : Nat → Prop where
  | here {p : Nat} {x : Int} (h : D.ru[p]? = some x) (h0 : 0 ≤ x) : lv D p
  | next {p q : Nat} {l : List Int} (h : D.nx[p]? = some l) (hq : (q : Int) ∈ l) (k : lv D q) : lv D p
/-- Behind a state from which no rule can be reached no text leads to a rule. -/
theorem okD.dead {D : Df} (h : okD D) : ∀ (s : List Nat) {p : Nat}, p < D.nx.length → (∀ c ∈ s, c < 256) → ¬ lv D p → D.ru[gos D p s]? = some (-1)
  | [], p, hp, _, hn => by
    have e : D.ru[p]? = some (D.ru[p]'(by rw [h.r]; exact hp)) := List.getElem?_eq_getElem _
    have h1 := h.ru _ (List.mem_of_getElem? e)
    have h2 : ¬ 0 ≤ D.ru[p]'(by rw [h.r]; exact hp) := fun h0 => hn (.here e h0)
    show D.ru[p]? = some (-1)
    rw [e]
    congr 1
    omega
  | c :: s, p, hp, hs, hn => by
    obtain ⟨l, e, hm, h3⟩ := h.to_mem hp (hs c List.mem_cons_self)
    exact okD.dead h s h3 (fun d hd => hs d (List.mem_cons_of_mem _ hd)) (fun hl => hn (.next e hm hl))
/-- Marks that are sound, hold where a rule is, and go back along every entry, are just these states. -/
theorem lv_iff {D : Df} {T : Nat → Prop} (h1 : ∀ p, T p → lv D p) (h2 : ∀ p x, D.ru[p]? = some x → 0 ≤ x → T p) (h3 : ∀ (p q : Nat) l, D.nx[p]? = some l → (q : Int) ∈ l → T q → T p) (p : Nat) : T p ↔ lv D p :=
  ⟨h1 p, fun h => by
    induction h with
    | here h h0 => exact h2 _ _ h h0
    | next h hq _ ih => exact h3 _ _ _ h hq ih⟩
end Go.Proofs.Ytfipagndpoahlaa.Ua
