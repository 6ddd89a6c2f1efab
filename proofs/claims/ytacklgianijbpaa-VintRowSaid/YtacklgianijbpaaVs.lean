/-
  Strings that were laid down one behind the other, each behind its length: they are read as they were.
-/
import Derived.Test.YtacklgianijbpaaVt
import Derived.Test.YtacklgianijbpaaVq
import Derived.ShutString
namespace Go.Proofs.Ytacklgianijbpaa.Vs
open Go.RowKit Go.Proofs.Ytacklgianijbpaa.Vm Go.Proofs.Ytacklgianijbpaa.Vb Go.Proofs.Ytacklgianijbpaa.Vq Go.Proofs.Ytacklgianijbpaa.Vt

theorem toList_size (s : ByteArray) : s.data.toList.length = s.size := by rw [Array.length_toList]; rfl

/-- Next at the place of a text. -/
theorem nextR_at {s t : ByteArray} {a : Nat} {r : List UInt8} (h : s.data.toList.drop a = textR t ++ r) (ht : t.size < 9223372036854775808) :
    nextR s a = (t.data.toList, (a : Int) + ((textR t).length : Int), 0) := by
  have h' : s.data.toList.drop a = put t.size ++ (t.data.toList ++ r) := by rw [h, textR, List.append_assoc]
  have hg := getR_at h' ht
  have h1 := congrArg List.length h'
  rw [List.length_drop, List.length_append, List.length_append, toList_size, toList_size] at h1
  have hc : ¬ (s.size : Int) - ((a : Int) + ((put t.size).length : Int)) < (t.size : Int) := by
    have := put_length9 ht
    omega
  have hd : s.data.toList.drop (a + (put t.size).length) = t.data.toList ++ r := by
    rw [← List.drop_drop, h', List.drop_left]
  have hl : (textR t).length = (put t.size).length + t.size := by rw [textR, List.length_append, toList_size]
  simp only [nextR, hg]
  rw [if_pos trivial, if_neg hc]
  refine Prod.ext ?_ (Prod.ext ?_ rfl)
  · show (s.data.toList.drop ((a : Int) + ((put t.size).length : Int)).toNat).take ((t.size : Int)).toNat = _
    rw [show ((a : Int) + ((put t.size).length : Int)).toNat = a + (put t.size).length by omega, hd, Int.toNat_natCast, ← toList_size t, List.take_left]
  · show (a : Int) + ((put t.size).length : Int) + (t.size : Int) = (a : Int) + ((textR t).length : Int)
    rw [hl]
    omega

/-- Strings one behind the other. -/
def encs (ss : List ByteArray) : List UInt8 := ss.flatMap textR
theorem encs_snoc (ss : List ByteArray) (t : ByteArray) : encs (ss ++ [t]) = encs ss ++ textR t := by simp [encs]
theorem encs_append (a b : List ByteArray) : encs (a ++ b) = encs a ++ encs b := by simp [encs]
theorem take_next {ss : List ByteArray} {k : Nat} (h : k < ss.length) : ss.take (k + 1) = ss.take k ++ [ss.getD k ByteArray.empty] := by
  rw [List.take_succ_eq_append_getElem h, List.getD_eq_getElem?_getD, List.getElem?_eq_getElem h]
  rfl
theorem encs_next {ss : List ByteArray} {k : Nat} (h : k < ss.length) : encs (ss.take (k + 1)) = encs (ss.take k) ++ textR (ss.getD k ByteArray.empty) := by
  rw [take_next h, encs_snoc]
theorem encs_drop {ss : List ByteArray} {k m : Nat} (hk : k < m) (hm : m ≤ ss.length) : ∃ r, (encs (ss.take m)).drop (encs (ss.take k)).length = textR (ss.getD k ByteArray.empty) ++ r := by
  have e : ss.take m = ss.take (k + 1) ++ (ss.drop (k + 1)).take (m - (k + 1)) := by
    rw [← List.take_append_drop (k + 1) (ss.take m), List.take_take, Nat.min_eq_left (by omega), List.drop_take]
  refine ⟨encs ((ss.drop (k + 1)).take (m - (k + 1))), ?_⟩
  rw [e, encs_append, encs_next (by omega), List.append_assoc, List.drop_left]
theorem textR_length {t : ByteArray} (h : t.size ≤ 2000) : 1 ≤ (textR t).length ∧ (textR t).length ≤ 2009 := by
  have := put_length9 (n := t.size) (by omega)
  rw [textR, List.length_append, toList_size]
  omega
theorem bytes_back (t : ByteArray) : (⟨t.data.toList.toArray⟩ : ByteArray) = t := by
  apply ByteArray.ext
  simp
theorem nextR_row {ss : List ByteArray} {k m : Nat} (hk : k < m) (hm : m ≤ ss.length) (ht : (ss.getD k ByteArray.empty).size ≤ 2000) :
    nextR ⟨(encs (ss.take m)).toArray⟩ ((encs (ss.take k)).length : Nat) = ((ss.getD k ByteArray.empty).data.toList, ((encs (ss.take (k + 1))).length : Int), 0) := by
  obtain ⟨r, hr⟩ := encs_drop hk hm
  generalize hT : ss.getD k ByteArray.empty = T at *
  rw [nextR_at (t := T) (r := r) (by simpa using hr) (by omega), encs_next (by omega), List.length_append, hT]
  simp

theorem size_at {ss : List ByteArray} {N k : Nat} (H : Hid (∀ s ∈ ss, s.size ≤ N)) (h : k < ss.length) : (ss.getD k ByteArray.empty).size ≤ N := by
  rw [List.getD_eq_getElem?_getD, List.getElem?_eq_getElem h]
  exact H.out _ (List.getElem_mem h)

theorem small_next {ss : List ByteArray} {k : Nat} {T : ByteArray} (H : Hid (∀ j, j < k → (ss.getD j ByteArray.empty).size ≤ 2000)) (HT : Hid (ss.getD k ByteArray.empty = T)) (h : T.size ≤ 2000) :
    Hid (∀ j, j < k + 1 → (ss.getD j ByteArray.empty).size ≤ 2000) :=
  Lib.hid fun j hj => by
    by_cases e : j = k
    · subst e; rw [HT.out]; exact h
    · exact H.out j (by omega)
theorem str_snoc {S : List UInt8} {ss : List ByteArray} {T : ByteArray} (HN : Hid (encs ss = S ++ textR T)) : Value.string (⟨S.toArray⟩ ++ ⟨(textR T).toArray⟩) = .string ⟨(encs ss).toArray⟩ := by
  rw [HN.out]
  congr 1

theorem len_top {ss : List ByteArray} {k : Nat} : ∀ {j : Nat}, j ≤ k → j ≤ ss.length → Hid (∀ i, i < k → (ss.getD i ByteArray.empty).size ≤ 2000) → k ≤ 30 → (encs (ss.take j)).length ≤ 9223372036854775807 := by
  have h : ∀ j, j ≤ k → j ≤ ss.length → Hid (∀ i, i < k → (ss.getD i ByteArray.empty).size ≤ 2000) → (encs (ss.take j)).length ≤ 2009 * j := by
    intro j
    induction j with
    | zero => intro _ _ _; simp [encs]
    | succ j ih =>
      intro h1 h2 H
      rw [encs_next (by omega), List.length_append]
      have h3 := ih (by omega) (by omega) H
      have h4 := (textR_length (H.out j (by omega))).2
      omega
  intro j h1 h2 H h3
  have := h j h1 h2 H
  omega

end Go.Proofs.Ytacklgianijbpaa.Vs
