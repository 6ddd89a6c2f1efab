/-
  A sliding window in lists of bytes: the last m of them, and bytes that repeat what stands d before.
  Conditions: as each theorem says. Nothing of the program is named here.
-/
import Derived.Test.YtoniejpbgidmfaaBm
namespace Go.Proofs.Ytoniejpbgidmfaa.Wm

section
variable {α : Type}
/-- The last m. -/
def lastN (m : Nat) (l : List α) : List α := l.drop (l.length - m)
theorem lastN_length (m : Nat) (l : List α) : (lastN m l).length = min m l.length := by simp [lastN]; omega
theorem lastN_all {m : Nat} {l : List α} (h : l.length ≤ m) : lastN m l = l := by unfold lastN; rw [show l.length - m = 0 by omega, List.drop_zero]
theorem lastN_zero (l : List α) : lastN 0 l = [] := by simp [lastN]
/-- What was cut off already makes no difference. -/
theorem lastN_cut (m : Nat) (a b : List α) : lastN m (lastN m a ++ b) = lastN m (a ++ b) := by
  unfold lastN
  by_cases h : a.length ≤ m
  · rw [show a.length - m = 0 by omega, List.drop_zero]
  · have e : (a.drop (a.length - m) ++ b) = (a ++ b).drop (a.length - m) := by rw [List.drop_append_of_le_length (by omega)]
    rw [e, List.drop_drop]
    congr 1
    simp only [List.length_drop, List.length_append]
    omega
theorem lastN_right {m : Nat} {a b : List α} (h : m ≤ b.length) : lastN m (a ++ b) = lastN m b := by
  unfold lastN
  rw [List.drop_append, List.drop_eq_nil_of_le (by simp; omega), List.nil_append]
  congr 1
  simp; omega
theorem lastN_lastN (k m : Nat) (l : List α) : lastN k (lastN m l) = lastN (min k m) l := by
  unfold lastN
  rw [List.drop_drop]
  congr 1
  simp only [List.length_drop]
  omega
/-- From the end on. -/
theorem lastN_get {m : Nat} {l : List α} {j : Nat} (h2 : j ≤ m) (h3 : j ≤ l.length) : (lastN m l)[(lastN m l).length - j]? = l[l.length - j]? := by
  rw [lastN_length]
  unfold lastN
  rw [List.getElem?_drop]
  congr 1
  omega
end

/-- Bytes that are put behind. -/
def put (m : Nat) (c s : List UInt8) : List UInt8 := lastN m (c ++ s)
theorem put_put (m : Nat) (c s t : List UInt8) : put m (put m c s) t = put m c (s ++ t) := by
  unfold put; rw [lastN_cut, List.append_assoc]
theorem put_length (m : Nat) (c s : List UInt8) : (put m c s).length = min m (c.length + s.length) := by unfold put; rw [lastN_length, List.length_append]
/-- A text so many times. -/
def again (s : List UInt8) : Nat → List UInt8
  | 0 => []
  | n + 1 => again s n ++ s
theorem again_length (s : List UInt8) (n : Nat) : (again s n).length = n * s.length := by
  induction n with
  | zero => simp [again]
  | succ n ih => rw [again, List.length_append, ih, Nat.add_mul, Nat.one_mul]
theorem put_again (m : Nat) (s : List UInt8) (n : Nat) : put m (lastN m (again s n)) s = lastN m (again s (n + 1)) := by
  unfold put; rw [lastN_cut]; rfl

/-- n bytes more, each of them the one d before. -/
def ext (c : List UInt8) (d : Nat) : Nat → List UInt8
  | 0 => c
  | k + 1 => ext c d k ++ [(ext c d k).getD ((ext c d k).length - d) 0]
theorem ext_length (c : List UInt8) (d k : Nat) : (ext c d k).length = c.length + k := by
  induction k with
  | zero => rfl
  | succ k ih => rw [ext, List.length_append, ih]; simp; omega
/-- The bytes that were made. -/
def out (c : List UInt8) (d k : Nat) : List UInt8 := (ext c d k).drop c.length
theorem ext_out (c : List UInt8) (d : Nat) : ∀ k, ext c d k = c ++ out c d k
  | 0 => by simp [out, ext]
  | k + 1 => by
    have ih := ext_out c d k
    unfold out
    have e : (ext c d (k + 1)).take c.length = c := by
      rw [ext, List.take_append_of_le_length (by rw [ext_length]; omega), ih, List.take_append_of_le_length (Nat.le_refl _), List.take_length]
    conv => lhs; rw [← List.take_append_drop c.length (ext c d (k + 1)), e]
theorem out_length (c : List UInt8) (d k : Nat) : (out c d k).length = k := by unfold out; rw [List.length_drop, ext_length]; omega
theorem out_next (c : List UInt8) (d k : Nat) : out c d (k + 1) = out c d k ++ [(ext c d k).getD (c.length + k - d) 0] := by
  have h1 := ext_out c d (k + 1)
  rw [ext, ext_length] at h1
  conv at h1 => lhs; lhs; rw [ext_out c d k]
  rw [List.append_assoc] at h1
  exact (List.append_cancel_left h1).symm
theorem ext_keep (c : List UInt8) (d : Nat) {i k : Nat} (h : i < c.length + k) : (ext c d (k + 1))[i]? = (ext c d k)[i]? := by
  rw [ext, List.getElem?_append_left (by rw [ext_length]; exact h)]
/-- Each is the byte d before it. -/
theorem ext_at {c : List UInt8} {d : Nat} (hd : 1 ≤ d) (hc : d ≤ c.length) : ∀ {i k : Nat}, c.length ≤ i → i < c.length + k → (ext c d k)[i]? = (ext c d k)[i - d]?
  | i, 0, h1, h2 => by omega
  | i, k + 1, h1, h2 => by
    by_cases h : i < c.length + k
    · rw [ext_keep c d h, ext_keep c d (by omega)]
      exact ext_at hd hc h1 h
    · have hi : i = c.length + k := by omega
      have hl : i = (ext c d k).length := by rw [ext_length]; exact hi
      rw [ext_keep c d (show i - d < c.length + k by omega), ext, List.getElem?_append_right (by omega), hl, Nat.sub_self]
      have hlt : (ext c d k).length - d < (ext c d k).length := by rw [ext_length]; omega
      simp [List.getD_eq_getElem?_getD, List.getElem?_eq_getElem hlt]
/-- No other list has that. -/
theorem ext_only {c : List UInt8} {d : Nat} (hd : 1 ≤ d) (hc : d ≤ c.length) : ∀ {k : Nat} {l : List UInt8}, l.length = c.length + k → l.take c.length = c → (∀ i, c.length ≤ i → i < l.length → l[i]? = l[i - d]?) → l = ext c d k
  | 0, l, h1, h2, _ => by
    rw [← h2, List.take_of_length_le (by omega)]; rfl
  | k + 1, l, h1, h2, h3 => by
    have hr : l.take (c.length + k) = ext c d k := by
      refine ext_only hd hc (by rw [List.length_take]; omega) ?_ (fun i hi hlt => ?_)
      · rw [List.take_take, Nat.min_eq_left (by omega)]; exact h2
      · rw [List.length_take] at hlt
        rw [List.getElem?_take, List.getElem?_take, if_pos (by omega), if_pos (by omega)]
        exact h3 i hi (by omega)
    have hlast : l.drop (c.length + k) = [(ext c d k).getD ((ext c d k).length - d) 0] := by
      have hlt : c.length + k < l.length := by omega
      rw [List.drop_eq_getElem_cons hlt, List.drop_eq_nil_of_le (by omega)]
      congr 1
      have e := h3 (c.length + k) (by omega) hlt
      rw [List.getElem?_eq_getElem hlt] at e
      rw [ext_length, ← hr, List.getD_eq_getElem?_getD, List.getElem?_take, if_pos (by omega), ← e]
      rfl
    rw [ext, ← hlast, ← hr, List.take_append_drop]
/-- Copy with d = 1 repeats the last byte. -/
theorem out_one {c : List UInt8} (hc : 1 ≤ c.length) : ∀ k, out c 1 k = List.replicate k (c.getD (c.length - 1) 0)
  | 0 => by simp [out, ext]
  | k + 1 => by
    rw [out_next, out_one hc k, List.replicate_succ']
    congr 2
    rw [ext_out, List.getD_eq_getElem?_getD, List.getD_eq_getElem?_getD]
    by_cases h : k = 0
    · subst h; rw [List.getElem?_append_left (by omega)]; rfl
    · rw [List.getElem?_append_right (by omega), out_one hc k]
      simp [show c.length + k - 1 - c.length < k by omega, List.getD_eq_getElem?_getD]
/-- What lies further back makes no difference. -/
theorem out_cut {c : List UInt8} {d m : Nat} (hd : 1 ≤ d) (hm : d ≤ m) (hc : d ≤ c.length) : ∀ k, out (lastN m c) d k = out c d k
  | 0 => by simp [out, ext]
  | k + 1 => by
    have ih := out_cut hd hm hc k
    rw [out_next, out_next, ih]
    congr 2
    rw [ext_out, ext_out, ih, List.getD_eq_getElem?_getD, List.getD_eq_getElem?_getD]
    have hl := lastN_length m c
    by_cases h : k < d
    · rw [List.getElem?_append_left (by omega), List.getElem?_append_left (by omega)]
      have h1 := lastN_get (l := c) (j := d - k) (m := m) (by omega) (by omega)
      rw [show (lastN m c).length + k - d = (lastN m c).length - (d - k) by omega, show c.length + k - d = c.length - (d - k) by omega, h1]
    · rw [List.getElem?_append_right (by omega), List.getElem?_append_right (by omega)]
      congr 2
      omega
/-- The content behind a copy. -/
theorem put_out (m : Nat) (c : List UInt8) (d k : Nat) : put m c (out c d k) = lastN m (ext c d k) := by unfold put; rw [ext_out]
end Go.Proofs.Ytoniejpbgidmfaa.Wm
