/-
  A varint at the head of a string, byte by byte: what each round of a reader's loop makes of it.
  Conditions: as each theorem says. Nothing of the program is named here.
-/
import Derived.Test.YtgilfjojimgpaaaVm
import Derived.PlainAid
namespace Go.Proofs.Ytgilfjojimgpaaa.Vb
open Go.RowKit Go.Proofs.Ytgilfjojimgpaaa.Vm Go.PlainAid

theorem drop_bt (r : ByteArray) (k : Nat) (h : k < r.size) : ∃ b : UInt8, r.data.toList.drop k = b :: r.data.toList.drop (k + 1) ∧ bt r k = (b.toNat : Int) := by
  have h' : k < r.data.toList.length := by simpa using h
  refine ⟨r.data.toList[k], List.drop_eq_getElem_cons h', ?_⟩
  unfold bt
  rw [dif_pos h]
  rfl
theorem drop_end (r : ByteArray) (k : Nat) (h : ¬ k < r.size) : r.data.toList.drop k = [] := by
  apply List.drop_eq_nil_of_le
  have : r.data.toList.length = r.size := by rw [Array.length_toList]; rfl
  omega

theorem get_next {r : ByteArray} {k X : Nat} (h9 : k < 9) (hr : k < r.size) (h : 128 ≤ bt r k) (HX : Hid (X < 128 ^ k)) (HG : Hid (getk 0 0 r.data.toList = getk k X (r.data.toList.drop k))) :
    ∃ X' : Nat, bits .or .i64 (X : Int) (wrap64 (bt r k % 128 * 2 ^ (7 * k))) = (X' : Int) ∧ X' ≤ 9223372036854775807 ∧ Hid (X' < 128 ^ (k + 1)) ∧ Hid (getk 0 0 r.data.toList = getk (k + 1) X' (r.data.toList.drop (k + 1))) := by
  obtain ⟨b, hd, hb⟩ := drop_bt r k hr
  obtain ⟨h1, h2, h3⟩ := join7 k X (b.toNat % 128) h9 (by omega) HX.out
  refine ⟨X + b.toNat % 128 * 128 ^ k, ?_, h3, Lib.hid h2, Lib.hid ?_⟩
  · rw [hb, show ((b.toNat : Int) % 128) = ((b.toNat % 128 : Nat) : Int) by omega]; exact h1
  · rw [HG.out, hd, getk, if_neg (by omega), if_pos (by omega)]

theorem get_last {r : ByteArray} {k X : Nat} (h9 : k < 9) (hr : k < r.size) (h : bt r k < 128) (h0 : ¬ (bt r k = 0 ∧ 0 < k)) (HX : Hid (X < 128 ^ k)) (HG : Hid (getk 0 0 r.data.toList = getk k X (r.data.toList.drop k))) :
    ∃ X' : Nat, bits .or .i64 (X : Int) (wrap64 (bt r k % 128 * 2 ^ (7 * k))) = (X' : Int) ∧ X' ≤ 9223372036854775807 ∧ Hid (getk 0 0 r.data.toList = (X', k + 1, 0)) := by
  obtain ⟨b, hd, hb⟩ := drop_bt r k hr
  obtain ⟨h1, h2, h3⟩ := join7 k X b.toNat h9 (by omega) HX.out
  refine ⟨X + b.toNat * 128 ^ k, ?_, h3, Lib.hid ?_⟩
  · rw [hb, show ((b.toNat : Int) % 128) = (b.toNat : Int) by omega]; exact h1
  · rw [HG.out, hd, getk, if_neg (by omega), if_neg (by omega), if_neg (by omega)]

theorem get_zero {r : ByteArray} {k X : Nat} (h9 : k < 9) (hr : k < r.size) (h : bt r k = 0) (h0 : 0 < k) (HG : Hid (getk 0 0 r.data.toList = getk k X (r.data.toList.drop k))) : Hid (getk 0 0 r.data.toList = (0, 0, 4)) := by
  obtain ⟨b, hd, hb⟩ := drop_bt r k hr
  exact Lib.hid (by rw [HG.out, hd, getk, if_neg (by omega), if_neg (by omega), if_pos (by omega)])

theorem get_short {r : ByteArray} {k X : Nat} (h9 : k < 9) (hr : ¬ k < r.size) (HG : Hid (getk 0 0 r.data.toList = getk k X (r.data.toList.drop k))) : Hid (getk 0 0 r.data.toList = (0, 0, 2)) :=
  Lib.hid (by rw [HG.out, drop_end r k hr, getk, if_neg (by omega)])

theorem get_nine {r : ByteArray} {k X : Nat} (h9 : ¬ k < 9) (HG : Hid (getk 0 0 r.data.toList = getk k X (r.data.toList.drop k))) : Hid (getk 0 0 r.data.toList = (0, 0, 4)) :=
  Lib.hid (by rw [HG.out]; cases r.data.toList.drop k <;> rw [getk, if_pos (by omega)])

theorem getk_ok : ∀ {l : List UInt8} {k X n z : Nat}, getk k X l = (n, z, 0) → X < 128 ^ k → k < z ∧ z ≤ 9 ∧ z - k ≤ l.length ∧ n < 128 ^ z
  | [], k, X, n, z, h, _ => by
    rw [getk] at h
    split at h <;> simp at h
  | b :: r, k, X, n, z, h, hX => by
    rw [getk] at h
    split at h
    · simp at h
    · rename_i h9
      split at h
      · have h2 := (join7 k X (b.toNat % 128) (by omega) (by omega) hX).2.1
        have := getk_ok h h2
        simp only [List.length_cons]
        omega
      · rename_i h128
        split at h
        · simp at h
        · have h2 := (join7 k X b.toNat (by omega) (by omega) hX).2.1
          simp only [Prod.mk.injEq] at h
          obtain ⟨rfl, rfl, _⟩ := h
          simp only [List.length_cons]
          omega

/-- What Get answers: the number, the offset behind it, the error. -/
def getR (s : ByteArray) (a : Int) : Int × Int × Int :=
  if a < 0 then (0, 0, 1)
  else
    let g := getk 0 0 (s.data.toList.drop a.toNat)
    if g.2.2 = 0 then (g.1, a + g.2.1, 0) else (0, 0, g.2.2)

theorem getR_neg {s : ByteArray} {a : Int} (h : a < 0) : getR s a = (0, 0, 1) := by simp [getR, h]
theorem getR_ok {s r : ByteArray} {a k X : Nat} (hr : r.data.toList = s.data.toList.drop a) (HG : Hid (getk 0 0 r.data.toList = (X, k, 0))) : getR s a = ((X : Int), (a : Int) + (k : Int), 0) := by
  have := HG.out
  rw [hr] at this
  simp [getR, this, show ¬ (a : Int) < 0 by omega]
theorem getR_no {s r : ByteArray} {a : Nat} {e : Int} (hr : r.data.toList = s.data.toList.drop a) (he : e ≠ 0) (HG : Hid (getk 0 0 r.data.toList = (0, 0, e))) : getR s a = (0, 0, e) := by
  have := HG.out
  rw [hr] at this
  simp [getR, this, he, show ¬ (a : Int) < 0 by omega]
theorem getR_past {s : ByteArray} {a : Nat} (h : s.size ≤ a) : getR s a = (0, 0, 2) := by
  have := drop_end s a (by omega)
  simp [getR, this, getk, show ¬ (a : Int) < 0 by omega]

theorem pow128_9 {z : Nat} (h : z ≤ 9) : 128 ^ z ≤ 9223372036854775808 := by
  have : 128 ^ z ≤ 128 ^ 9 := Nat.pow_le_pow_right (by omega) h
  simpa using this
/-- Without an error: there is a number, and where it ends. -/
theorem getR_inv {s : ByteArray} {a : Int} (h : (getR s a).2.2 = 0) : ∃ b n z : Nat, a = (b : Int) ∧ getk 0 0 (s.data.toList.drop b) = (n, z, 0) ∧ getR s a = ((n : Int), (b : Int) + (z : Int), 0) ∧ n ≤ 9223372036854775807 ∧ 1 ≤ z ∧ z ≤ 9 ∧ b + z ≤ s.size := by
  by_cases ha : a < 0
  · rw [getR_neg ha] at h; simp at h
  · obtain ⟨b, rfl⟩ := Int.eq_ofNat_of_zero_le (show 0 ≤ a by omega)
    rcases hg : getk 0 0 (s.data.toList.drop b) with ⟨n, z, e⟩
    have hn : ¬ (b : Int) < 0 := by omega
    by_cases he : e = 0
    · subst he
      obtain ⟨h1, h2, h3, h4⟩ := getk_ok hg (by simp)
      have h5 := pow128_9 h2
      have h6 : s.data.toList.length = s.size := by rw [Array.length_toList]; rfl
      rw [List.length_drop] at h3
      refine ⟨b, n, z, rfl, hg, ?_, by omega, by omega, h2, by omega⟩
      simp [getR, hg, hn]
    · simp [getR, hg, hn, he] at h
theorem getR_err {s : ByteArray} {a : Int} (h : ¬ (getR s a).2.2 = 0) : getR s a = (0, 0, (getR s a).2.2) := by
  by_cases ha : a < 0
  · rw [getR_neg ha]
  · unfold getR at h ⊢
    rw [if_neg ha] at h ⊢
    simp only at h ⊢
    split
    · rename_i h'; rw [if_pos h'] at h; simp at h
    · rfl

end Go.Proofs.Ytgilfjojimgpaaa.Vb
