/-
  Numbers that are written one behind the other, and their bits as one number: what is read back.
  Conditions: none but the ones that each theorem names. Nothing of the program is named here.
-/
import Derived.Test.YtceocbfeapdjeaaBm
namespace Go.Proofs.Ytceocbfeapdjeaa.Bb
open Go.RowKit Go.Proofs.Ytceocbfeapdjeaa.Vm Go.Proofs.Ytceocbfeapdjeaa.Bm

/-- A number that was taken: how (0: lowest bit first, 1: highest), the number, its bits. -/
structure Tk where
  k : Nat
  v : Nat
  n : Nat
  s : ByteArray
def Tk.ok (x : Tk) : Prop := (x.k = 0 ∨ x.k = 1) ∧ x.n ≤ 32 ∧ x.v < 2 ^ x.n
/-- Its bits as they are written. -/
def Tk.c (x : Tk) : Nat := if x.k = 1 then turnN x.v x.n else x.v
def Tk.cells (x : Tk) : List Value := [.int .i64 x.k, .int .i64 x.v, .int .i64 x.n, .string x.s]
def lenT : List Tk → Nat
  | [] => 0
  | x :: r => x.n + lenT r
def encT : List Tk → Nat
  | [] => 0
  | x :: r => x.c + 2 ^ x.n * encT r
def flat : List Tk → List Value
  | [] => []
  | x :: r => x.cells ++ flat r

theorem c_lt {x : Tk} (h : x.ok) : x.c < 2 ^ x.n := by
  unfold Tk.c
  split
  · exact turnN_lt _ _
  · exact h.2.2
theorem lenT_append : ∀ (a b : List Tk), lenT (a ++ b) = lenT a + lenT b
  | [], b => by simp [lenT]
  | x :: a, b => by simp only [List.cons_append, lenT]; rw [lenT_append a b]; omega
theorem encT_append : ∀ (a b : List Tk), encT (a ++ b) = encT a + 2 ^ lenT a * encT b
  | [], b => by simp [encT, lenT]
  | x :: a, b => by
    simp only [List.cons_append, encT, lenT]
    rw [encT_append a b, Nat.mul_add, Nat.pow_add, Nat.mul_assoc]
    omega
theorem encT_lt : ∀ (a : List Tk), (∀ x ∈ a, x.ok) → encT a < 2 ^ lenT a
  | [], _ => by simp [encT, lenT]
  | x :: a, h => by
    have h1 := c_lt (h x (by simp))
    have h2 := encT_lt a (fun y hy => h y (by simp [hy]))
    simp only [encT, lenT]
    rw [Nat.pow_add]
    have h3 : 2 ^ x.n * (encT a + 1) ≤ 2 ^ x.n * 2 ^ lenT a := Nat.mul_le_mul_left _ h2
    rw [Nat.mul_add] at h3
    omega
theorem lenT_le : ∀ (a : List Tk), (∀ x ∈ a, x.ok) → lenT a ≤ 32 * a.length
  | [], _ => by simp [lenT]
  | x :: a, h => by
    have h1 := (h x (by simp)).2.1
    have h2 := lenT_le a (fun y hy => h y (by simp [hy]))
    simp only [lenT, List.length_cons]
    omega
/-- What stands at the place of one of them. -/
theorem peek_at (a : List Tk) (x : Tk) (b : List Tk) (ha : ∀ y ∈ a, y.ok) (hx : x.ok) : peekN (encT (a ++ x :: b)) (lenT a) x.n = x.c := by
  have h1 := encT_lt a ha
  have h2 := c_lt hx
  unfold peekN
  rw [encT_append, Nat.add_mul_div_left _ _ (Nat.two_pow_pos _), Nat.div_eq_of_lt h1, Nat.zero_add]
  simp only [encT]
  rw [Nat.add_mul_mod_self_left, Nat.mod_eq_of_lt h2]
theorem flat_append : ∀ (a b : List Tk), flat (a ++ b) = flat a ++ flat b
  | [], b => by simp [flat]
  | x :: a, b => by simp only [List.cons_append, flat]; rw [flat_append a b, List.append_assoc]
theorem flat_length : ∀ (a : List Tk), (flat a).length = a.length * 4
  | [] => by simp [flat]
  | x :: a => by simp only [flat, List.length_append, List.length_cons]; rw [flat_length a]; simp [Tk.cells]; omega
theorem flat_get (a : List Tk) (x : Tk) (b : List Tk) (j : Nat) (hj : j < 4) : (flat (a ++ x :: b))[a.length * 4 + j]? = x.cells[j]? := by
  rw [flat_append, ← flat_length, List.getElem?_append_right (by omega), Nat.add_sub_cancel_left]
  simp only [flat]
  rw [List.getElem?_append_left (by simp [Tk.cells]; omega)]
theorem split_at (l : List Tk) (i : Nat) (h : i < l.length) : ∃ (a : List Tk) (x : Tk) (b : List Tk), l = a ++ x :: b ∧ a.length = i := by
  refine ⟨l.take i, l[i], l.drop (i + 1), ?_, by rw [List.length_take]; omega⟩
  rw [← List.drop_eq_getElem_cons h, List.take_append_drop]
/-- Turned back. -/
theorem c_back {x : Tk} (h : x.ok) (hk : x.k = 1) : turnN x.c x.n = x.v := by
  unfold Tk.c
  rw [if_pos hk, turnN_turnN, Nat.mod_eq_of_lt h.2.2]

end Go.Proofs.Ytceocbfeapdjeaa.Bb
