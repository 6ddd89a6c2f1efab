/-
  How a set of bytes is shown, in lists: a byte's notation, runs, the list between the brackets.
  Conditions: as each theorem says. Nothing of the program is named here.
-/
import Derived.Test.YtdbeohfaaonbjaaTm
namespace Go.Proofs.Ytdbeohfaaonbjaa.Ts
open Go.Proofs.Ytdbeohfaaonbjaa.Tm

def hexd (k : Nat) : UInt8 := if k < 10 then UInt8.ofNat (48 + k) else UInt8.ofNat (87 + k)
/-- The bytes that are shown behind a backslash. -/
def maskL : List Nat := [92, 91, 93, 40, 41, 123, 125, 42, 43, 63, 124, 46, 45, 94, 47, 34]
def nota (c : Nat) : List UInt8 :=
  if c = 10 then [92, 110] else if c = 9 then [92, 116] else if c = 32 then [92, 115] else if c ∈ maskL then [92, UInt8.ofNat c] else if 32 < c ∧ c < 127 then [UInt8.ofNat c] else [92, 120, hexd (c / 16), hexd (c % 16)]
theorem nota_len (c : Nat) : 1 ≤ (nota c).length ∧ (nota c).length ≤ 4 := by
  unfold nota
  repeat' split
  all_goals simp
/-- How many bytes behind x are one more each. -/
def runF : Nat → List Nat → Nat
  | _, [] => 0
  | x, y :: r => if y = x + 1 then runF y r + 1 else 0
theorem runF_le : ∀ (x : Nat) (r : List Nat), runF x r ≤ r.length
  | _, [] => Nat.le_refl _
  | x, y :: r => by
    unfold runF
    have := runF_le y r
    split
    · rw [List.length_cons]; omega
    · omega
theorem runF_get : ∀ (x : Nat) (r : List Nat) (j : Nat), j ≤ runF x r → (x :: r)[j]? = some (x + j)
  | x, r, 0, _ => rfl
  | x, [], j + 1, h => by unfold runF at h; omega
  | x, y :: r, j + 1, h => by
    unfold runF at h
    by_cases hy : y = x + 1
    · rw [if_pos hy] at h
      have := runF_get y r j (by omega)
      rw [List.getElem?_cons_succ, this, hy]
      congr 1; omega
    · rw [if_neg hy] at h; omega
theorem runF_stop : ∀ (x : Nat) (r : List Nat), (x :: r)[runF x r + 1]? ≠ some (x + runF x r + 1)
  | x, [] => by simp [runF]
  | x, y :: r => by
    unfold runF
    by_cases hy : y = x + 1
    · rw [if_pos hy]
      have := runF_stop y r
      rw [List.getElem?_cons_succ]
      intro e
      apply this
      rw [e, hy]
      congr 1; omega
    · rw [if_neg hy]
      intro e
      rw [Nat.zero_add, List.getElem?_cons_succ] at e
      have e2 : (y :: r)[0]? = some y := rfl
      rw [e2] at e
      injection e with e
      omega
/-- A walk that counts as long as the bytes are one more each has counted the run. -/
theorem runF_is {x : Nat} {r : List Nat} {n : Nat} (h1 : ∀ j, j ≤ n → (x :: r)[j]? = some (x + j)) (h2 : (x :: r)[n + 1]? ≠ some (x + n + 1)) : runF x r = n := by
  rcases Nat.lt_trichotomy (runF x r) n with h | h | h
  · have e := h1 (runF x r + 1) (by omega)
    exact absurd e (runF_stop x r)
  · exact h
  · exact absurd (runF_get x r (n + 1) (by omega)) h2
/-- The list between the brackets. -/
def lstQ : List Nat → List UInt8
  | [] => []
  | x :: r => if 2 ≤ runF x r then nota x ++ 45 :: (nota (x + runF x r) ++ lstQ (r.drop (runF x r))) else nota x ++ lstQ r
termination_by l => l.length
decreasing_by
  all_goals simp only [List.length_cons, List.length_drop]
  all_goals omega
theorem lstQ_nil : lstQ [] = [] := by rw [lstQ]
theorem lstQ_run {x : Nat} {r : List Nat} (h : 2 ≤ runF x r) : lstQ (x :: r) = nota x ++ 45 :: (nota (x + runF x r) ++ lstQ (r.drop (runF x r))) := by rw [lstQ, if_pos h]
theorem lstQ_one {x : Nat} {r : List Nat} (h : ¬ 2 ≤ runF x r) : lstQ (x :: r) = nota x ++ lstQ r := by rw [lstQ, if_neg h]
/-- A set as it is shown; na: all the others. -/
def shwQ (a na : List Nat) : List UInt8 :=
  match byt a with
  | [x] => nota x
  | b => if 128 < b.length then 91 :: 94 :: (lstQ (byt na) ++ [93]) else 91 :: (lstQ b ++ [93])
/-- .. by the bytes that stand there. -/
theorem lstQ_at {b : List Nat} {i x : Nat} (h : b[i]? = some x) : b.drop i = x :: b.drop (i + 1) := by
  obtain ⟨h1, h2⟩ := List.getElem?_eq_some_iff.1 h
  rw [List.drop_eq_getElem_cons h1, h2]
theorem lstQ_len : ∀ (n : Nat) (b : List Nat), b.length ≤ n → (lstQ b).length ≤ 4 * b.length
  | _, [], _ => by rw [lstQ_nil]; exact Nat.le_refl _
  | 0, x :: r, h => absurd h (by simp)
  | n + 1, x :: r, h => by
    have h1 := nota_len x
    rw [List.length_cons] at h
    by_cases h2 : 2 ≤ runF x r
    · have h3 := nota_len (x + runF x r)
      have h4 := lstQ_len n (r.drop (runF x r)) (by rw [List.length_drop]; omega)
      have h5 := runF_le x r
      rw [List.length_drop] at h4
      rw [lstQ_run h2]
      simp only [List.length_append, List.length_cons]
      omega
    · have h4 := lstQ_len n r (by omega)
      rw [lstQ_one h2]
      simp only [List.length_append, List.length_cons]
      omega
end Go.Proofs.Ytdbeohfaaonbjaa.Ts
