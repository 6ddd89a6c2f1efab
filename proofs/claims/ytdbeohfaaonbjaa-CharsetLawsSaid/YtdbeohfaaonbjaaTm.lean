/-
  Sets of bytes in numbers: four words of 64 bits; who is in them; sets that are made of others.
  Conditions: as each theorem says. Nothing of the program is named here.
-/
import Derived.Test.YtdbeohfaaonbjaaBm
namespace Go.Proofs.Ytdbeohfaaonbjaa.Tm

/-- Four words. -/
structure isSet (a : List Nat) : Prop where
  l : a.length = 4
  b : ∀ x ∈ a, x < 18446744073709551616
def has (a : List Nat) (c : Nat) : Bool := (a.getD (c / 64) 0).testBit (c % 64)
theorem has_div (a : List Nat) (c : Nat) : has a c = decide (a.getD (c / 64) 0 / 2 ^ (c % 64) % 2 = 1) := Nat.testBit_eq_decide_div_mod_eq
/-- With one byte more. -/
def wth (a : List Nat) (c : Nat) : List Nat := a.set (c / 64) (a.getD (c / 64) 0 ||| 2 ^ (c % 64))
def zero : List Nat := [0, 0, 0, 0]
theorem zero_set : isSet zero := ⟨rfl, fun x hx => by simp [zero] at hx; omega⟩
theorem has_zero {c : Nat} (h : c < 256) : has zero c = false := by
  have e : zero.getD (c / 64) 0 = 0 := by
    rcases (show c / 64 = 0 ∨ c / 64 = 1 ∨ c / 64 = 2 ∨ c / 64 = 3 by omega) with h | h | h | h <;> rw [h] <;> rfl
  unfold has
  rw [e, Nat.zero_testBit]
theorem getD_set {a : List Nat} {i j x : Nat} (hi : i < a.length) : (a.set i x).getD j 0 = if j = i then x else a.getD j 0 := by
  rw [List.getD_eq_getElem?_getD, List.getElem?_set, List.getD_eq_getElem?_getD]
  by_cases h : j = i
  · subst h; simp [hi]
  · rw [if_neg (fun e => h e.symm), if_neg h]
theorem has_wth {a : List Nat} (ha : isSet a) {c d : Nat} (hc : c < 256) : has (wth a c) d = (has a d || decide (d = c)) := by
  unfold has wth
  rw [getD_set (by rw [ha.l]; omega)]
  by_cases h : d / 64 = c / 64
  · rw [if_pos h, Nat.testBit_or, h, Nat.testBit_two_pow]
    congr 1
    by_cases e : d = c
    · subst e; simp
    · rw [decide_eq_false e, decide_eq_false (by omega)]
  · rw [if_neg h, decide_eq_false (fun e => h (by rw [e])), Bool.or_false]
theorem wth_set {a : List Nat} (ha : isSet a) (c : Nat) : isSet (wth a c) := by
  refine ⟨by unfold wth; rw [List.length_set]; exact ha.l, fun x hx => ?_⟩
  rcases List.mem_or_eq_of_mem_set hx with h | h
  · exact ha.b x h
  · rw [h]
    have h1 : a.getD (c / 64) 0 < 2 ^ 64 := by
      by_cases hl : c / 64 < a.length
      · rw [List.getD_eq_getElem?_getD, List.getElem?_eq_getElem hl]
        exact ha.b _ (List.getElem_mem hl)
      · rw [List.getD_eq_getElem?_getD, List.getElem?_eq_none (by omega)]
        exact Nat.pow_pos (by omega)
    have h2 : 2 ^ (c % 64) < 2 ^ 64 := Nat.pow_lt_pow_right (by omega) (by omega)
    exact Nat.or_lt_two_pow h1 h2
/-- Two sets with the same bytes are one. -/
theorem set_ext {a b : List Nat} (ha : isSet a) (hb : isSet b) (h : ∀ c, c < 256 → has a c = has b c) : a = b := by
  refine List.ext_getElem (by rw [ha.l, hb.l]) (fun i h1 h2 => ?_)
  have hi : i < 4 := by rw [← ha.l]; exact h1
  refine Nat.eq_of_testBit_eq (fun k => ?_)
  by_cases hk : k < 64
  · have := h (64 * i + k) (by omega)
    unfold has at this
    rw [show (64 * i + k) / 64 = i by omega, show (64 * i + k) % 64 = k by omega] at this
    rw [List.getD_eq_getElem?_getD, List.getD_eq_getElem?_getD, List.getElem?_eq_getElem h1, List.getElem?_eq_getElem h2] at this
    exact this
  · have t1 : a[i].testBit k = false := Nat.testBit_lt_two_pow (Nat.lt_of_lt_of_le (ha.b _ (List.getElem_mem h1)) (show 18446744073709551616 ≤ 2 ^ k from Nat.pow_le_pow_right (n := 2) (i := 64) (by decide) (show 64 ≤ k by omega)))
    have t2 : b[i].testBit k = false := Nat.testBit_lt_two_pow (Nat.lt_of_lt_of_le (hb.b _ (List.getElem_mem h2)) (show 18446744073709551616 ≤ 2 ^ k from Nat.pow_le_pow_right (n := 2) (i := 64) (by decide) (show 64 ≤ k by omega)))
    rw [t1, t2]
/-- The set of bytes that a test takes: the first n of them looked at. -/
def upto (p : Nat → Bool) : Nat → List Nat
  | 0 => zero
  | n + 1 => if p n then wth (upto p n) n else upto p n
theorem upto_set (p : Nat → Bool) : ∀ n, isSet (upto p n)
  | 0 => zero_set
  | n + 1 => by
    unfold upto
    split
    · exact wth_set (upto_set p n) n
    · exact upto_set p n
theorem has_upto (p : Nat → Bool) : ∀ n, n ≤ 256 → ∀ c, c < 256 → has (upto p n) c = (decide (c < n) && p c)
  | 0, _, c, hc => by rw [show upto p 0 = zero from rfl, has_zero hc]; simp
  | n + 1, hn, c, hc => by
    have ih := has_upto p n (by omega) c hc
    unfold upto
    by_cases hp : p n = true
    · rw [if_pos hp, has_wth (upto_set p n) (by omega), ih]
      by_cases e : c = n
      · subst e; simp [hp]
      · rw [decide_eq_false e, Bool.or_false]
        congr 1
        exact decide_eq_decide.2 (by omega)
    · rw [if_neg hp, ih]
      by_cases e : c = n
      · subst e
        simp [hp]
      · congr 1
        exact decide_eq_decide.2 (by omega)
/-- The set of a text's bytes. -/
def ofS (l : List UInt8) : List Nat := l.foldl (fun a c => wth a c.toNat) zero
theorem fold_set : ∀ (l : List UInt8) (a : List Nat), isSet a → isSet (l.foldl (fun a c => wth a c.toNat) a)
  | [], _, h => h
  | c :: l, _, h => fold_set l _ (wth_set h c.toNat)
theorem fold_has : ∀ (l : List UInt8) (a : List Nat), isSet a → ∀ d, has (l.foldl (fun a c => wth a c.toNat) a) d = (has a d || l.any (fun c => decide (d = c.toNat)))
  | [], _, _, d => by simp
  | c :: l, a, h, d => by
    rw [List.foldl_cons, fold_has l _ (wth_set h c.toNat) d, has_wth h (by have := c.toNat_lt; omega), List.any_cons, Bool.or_assoc]
theorem ofS_set (l : List UInt8) : isSet (ofS l) := fold_set l _ zero_set
theorem has_ofS (l : List UInt8) {d : Nat} (hd : d < 256) : has (ofS l) d = l.any (fun c => decide (d = c.toNat)) := by
  unfold ofS; rw [fold_has l _ zero_set, has_zero hd, Bool.false_or]
/-- The bytes of a set, in order; how many. -/
def byt (a : List Nat) : List Nat := (List.range 256).filter (has a)
theorem mem_byt {a : List Nat} {c : Nat} : c ∈ byt a ↔ c < 256 ∧ has a c = true := by
  unfold byt; rw [List.mem_filter, List.mem_range]
theorem ofS_byt {a : List Nat} (ha : isSet a) : ofS ((byt a).map UInt8.ofNat) = a := by
  refine set_ext (ofS_set _) ha (fun c hc => ?_)
  rw [has_ofS _ hc, List.any_map]
  by_cases h : has a c = true
  · rw [h, List.any_eq_true]
    exact ⟨c, mem_byt.2 ⟨hc, h⟩, by simp [Nat.mod_eq_of_lt hc]⟩
  · have h' : has a c = false := by simpa using h
    rw [h', List.any_eq_false]
    intro x hx
    obtain ⟨h1, h2⟩ := mem_byt.1 hx
    simp [Nat.mod_eq_of_lt h1]
    rintro rfl
    exact h h2
/-- A set and all others are 256 bytes. -/
theorem byt_not {a b : List Nat} (h : ∀ c, c < 256 → has b c = !has a c) : (byt a).length + (byt b).length = 256 := by
  unfold byt
  have e : (List.range 256).filter (has b) = (List.range 256).filter (fun c => !has a c) := List.filter_congr (fun c hc => h c (List.mem_range.1 hc))
  rw [e]
  have : ∀ l : List Nat, (l.filter (has a)).length + (l.filter (fun c => !has a c)).length = l.length := fun l => by
    induction l with
    | nil => rfl
    | cons x l ih =>
      rw [List.filter_cons, List.filter_cons]
      cases hx : has a x
      · simp; omega
      · simp; omega
  rw [this, List.length_range]
end Go.Proofs.Ytdbeohfaaonbjaa.Tm
